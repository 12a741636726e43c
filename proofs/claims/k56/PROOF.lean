import PyProof.Rows.All
import Wide.All
import OpenK.AllK
import Wide.FinOn
import Lean
import PyProof.EqAt
import PyProof.EqKinds
import PyProof.TupleCall
import PyProof.NeKinds
import PySem.Challenge.RW_loveboon_k56_whole_books_asked_by_turns
noncomputable section
theorem U {α : Sort _}{a : α} : a = a := rfl
open Array renaming getElem?_eq_getElem→Uu,length_toList→Uv,getElem?_toList→Vk,getD_eq_getD_getElem?→Wf,getElem?_eq_none→Ye
open Bool renaming false_ne_true→Uc,and_eq_true→Wc,eq_iff_iff→YW,false_eq_true→Y0,false_or→aa7,or_eq_true→ab9
open Classical renaming byContradiction→Z5
open Decidable renaming byContradiction→Xj
open False renaming elim→Yv
open ForInStep renaming yield→YS
open Int renaming toNat_natCast→UL,emod_lt_of_pos→U7,le_refl→Vj,emod_nonneg→Vp,zero_add→Wt,eq_ofNat_of_zero_le→Y6,toNat→Zo,le_trans→ZR,toNat_of_nonneg→aa2
open List renaming length_map→Tw,getElem?_eq_getElem→TJ,getD_eq_getElem?_getD→TQ,mem_cons_of_mem→TX,mem_cons_self→TY,map_append→T9,mem_of_getElem?→Ud,size_toArray→Ue,length_append→Uh,range→Ui,length_take→Uj,take_length→Ul,length_cons→Um,getElem?_map→Uo,replicate→Ur,take_add_one→Ux,length_range→UJ,mem_append_right→UW,map_cons→U6,nodup_cons→Vg,getElem?_append_right→Vl,take_zero→Vs,foldl_cons→Vw,getElem?_eq_none→Vz,getElem_mem→VD,mem_cons→VG,lookup_cons→VP,not_mem_nil→V3,length_drop→V4,append_nil→Wa,getElem?_range→Wd,length_replicate→We,getElem?_append_left→Wh,drop_eq_getElem_cons→Wi,append_assoc→Wk,length_filter_le→Wn,pairwise_cons→Wu,take_succ_cons→WQ,replicate_succ→WR,range'→WW,mem_singleton→WY,filter_cons→W0,map_map→W4,sum→Xb,drop_of_length_le→Xe,range_succ→Xm,length_set→Xn,forIn_cons→Xo,find?_cons→Xp,pairwise_append→Xw,mem_of_mem_take→Xx,getElem_toArray→Xy,flatMap_cons→Xz,getElem_of_mem→XH,forIn_nil→XS,zipWith→Yb,getElem?_set_self→Yc,filter_append→Yd,sum_cons→Yk,any_cons→Yl,pairwise_map→Yp,mem_of_find?_eq_some→YB,length_zipWith→YD,getElem?_take_of_lt→YH,find?_some→YQ,foldl→YZ,getElem?_replicate→Y5,set_eq_take_append_cons_drop→Y7,nodup_append→Zb,flatten_cons→Zc,Sublist→Zd,getElem?_toArray→Zf,eq_nil_or_concat→Zg,concat_eq_append→Zh,zipIdx_cons→Zn,all_cons→Zr,getElem?_set_ne→Zu,eq_nil_of_length_eq_zero→Zv,nil_append→ZC,map_congr_left→ZG,flatMap_append→ZJ,filterMap_cons→ZK,map_nil→ZQ,mem_or_eq_of_mem_set→Z4,take_sublist→aac,reverse_cons→aad,length→aae,length_erase_of_mem→aal,take_of_length_le→aaA,range_succ_eq_map→aaB,zipIdx_nil→aaI,mem_filter→aaJ,mem_append→aaK,filter_nil→aaL,length_filter_lt_length_iff_exists→aaP,replicate_succ'→aaW,mem_erase_of_ne→aaX,mem_append_left→aaY,getElem?_take→abe,getElem?_drop→abf,filter_filter→abg,toArray→abx,map→aby,foldl_append→abz,filter_congr→abA,ext_getElem?→abB,eraseIdxIfInBounds_toArray→abG,getElem_inj→abP,cons_append→abQ,all_eq_true→abR,getLast?_eq_some_getLast→abZ,of_mem_zip→ab5,dropLast_concat_getLast→ab6
open List.Pairwise renaming nil→Ze
open List.Sublist renaming refl→abC
open Nat renaming le_refl→Ua,ne_of_lt→Uq,lt_of_lt_of_le→Us,zero_le→Uw,le_trans→Vd,lt_succ_of_lt→Vi,lt_or_ge→V0,lt_succ_self→Wb,ne_of_gt→Wg,lt_irrefl→Wq,pow_le_pow_right→Wx,le_succ→WT,lt_of_le_of_lt→X8,le_of_lt→Yy,blt→Za,lt_of_succ_lt_succ→aaz,not_lt_zero→aaH,le_of_ble_eq_true→aaO,sub_self→abu,lt_trans→abv,succ_le_succ→abO
open Ne renaming symm→Xd
open Option renaming map_some→aaG
open Option.some renaming inj→U4
open Or renaming inr→Zm,inl→Zz
open PyProof.Rows renaming IntsAre→Vn,seqObj→VJ,callWith_type1→V1,step_dedup→Ww,SortSt→WX,SortKind→Xv,pairsOf→Yo,arrOf→aaa,listUpdate_at→aaj,size_push'→aav,AllBare→aaC,elem'→aaE,seqEpoch_at→aaS,pendingOf→aaZ,slot_tuple_getitem→abF,callWith_builtin1→abN,entry_list_sort→ab2
open PyProof.Rows.F renaming plain_set_update_loop→aat
open PyProof.Rows.SortSt renaming mk'→Ys
open PySem renaming wpAny_bind→Tv,Shared→TF,wpAny_pure→TV,wpAny→Ug,model→Up,Program→Uy,wpAny_loadPart'→UG,mainGlobals→U8,starEach→U9,wpAny_newObj_type→Vc,World→Ve,Around→Vf,wpAny_field→Vr,wpAny_call_entry→Vu,Heap→Vv,wpAny_callSpecial?_slot→Vx,wpAny_mono→VB,bootBuiltins→VF,wpAny_seqItems→VH,Str→VM,rawInt→V2,wpAny_holding→V5,wpAny_setField_rec→V7,codeAny_builtin→V8,mem_of_lookup→Wj,compareOp→Wl,plainId_quiet→Wo,sizeLine_eq→Wv,wpAny_truthy_bool→WD,wpAny_setField→WK,codeAny→WL,wpAny_attempt→W3,wpAny_of_eq→W6,pyNext→W7,eval→W8,foldedSetIterable→Xa,behindInMarks→Xf,wpAny_rule→Xg,Obj→Xh,builtinLookup_eq_fast→Xi,wpAny_ite_false→Xk,letOwnedTupleGo→Xl,wpAny_pyIter_list→Xr,wpAny_standAt→XC,call_meets→XD,wpAny_isInstance→XJ,wpAny_askSetting→XM,isSubtype_type→XN,firstArgMember→XQ,wpAny_letGo→X3,wpAny_pyIter_tuple→X4,wpAny_Call_Name_kw→X6,wpAny_passesOwn→Yg,IsZip→Yh,FuncData→Yi,wpAny_onRaise→Yj,wpAny_setState_of→Yn,binaryOp→Yq,SetTable→Yu,intKind→Yx,Scope→Yz,IsPair→YF,wpAny_updateSeq→YK,typeLookup_type→YL,Pos→YM,sysModules→YX,pickOrder→Zi,backTo→Zj,assignEach→Zk,sliceBounds→Zt,wpAny_specialOf→Zx,argsOk→Zy,wpAny_setEntries_of→ZF,codeAny_mono→ZP,wpAny_tryCatch→ZV,typeIs_int→ZW,isSubtype_stop→ZX,assign→ZZ,NameKind→Z2,wpAny_binaryOp_repeat_ref→Z3,wpAny_pyIter_enum→Z8,wpAny_newList→aag,wpAny_comprehension_free→aah,signature?_of→aai,wpAny_pyIter_zip→aan,wpAny_eqBool_int→aao,swapsWith→aap,seqItems?→aaq,compPost→aar,wpAny_execs_nil→aaD,wpAny_updateSeq_pair→aaQ,wpAny_newTuple→aaR,pyIter→aaT,bindArgs→aaU,getItem→aa0,BindsTo→aa1,wpAny_handled→aa3,field→aa4,tupleKind_room_in1→aa8,Result→abb,wpAny_pyIter_slot→abh,wpAny_assign_Name→abi,valueAt→abj,standAt→abk,relayAll→abl,holding→abm,compEnvC→abn,callerA→abo,callType_new→abp,Meets→abw,updateSeq→abH,tupleKind→abI,seqIndex?→abJ,noFill_tuple_add→abK,newExc→abL,checkBuiltinCall→abM,IsPart→abS,wpAny_throw→abW,unsupported→abX,subscripted→abY,wpAny_ite_split→ab0,theTreesLotGoes→ab1,codeAny_of_tree→ab3,setNext→aca
open PySem.Around renaming under_plainId→VN
open PySem.Builtin.Builtins renaming bindParams→ZS
open PySem.Builtin.List renaming listTooLong→aam,listLengthHint→ace,listExtendWith→acf
open PySem.Builtin.Slice renaming slicePlaces→YC,sliceAdjust→Z7
open PySem.Builtin.SmallTypes renaming nextOf→Vo,ownedTupleIsFree→Vy,ownedTupleHandOut→Xc,newClass→acd
open PySem.Builtin.Tuple renaming tupleExact→YJ
open PySem.Calls renaming call_function_entry→Z6
open PySem.F renaming plainAttrs_list→Uz,type_list_append→Va,slot_list_append→Vb,slot_zip_next→Xq,plain_max_loop→XX,slot_tuple_iterator_next→Yw,slot_int_rmul→YT,args_zip_next_1→aaf,args_tuple_add_2→aak,entry_tuple_add→aas,entry_zip_next→aau,slot_tuple_add→aay,type_list_pop→aaM,slot_list_pop→aaN,args_int_rmul_2→abE,entry_max_loop→abT,entry_int_rmul→abU,fills_int_mul→ab7,args_tuple_iterator_next_1→ab8,entry_tuple_iterator_next→acb
open PySem.Heap renaming get?_push_of_some→Tz,get?_push_size→Ub,lt_size→Uk,get?_update_other→Vm,get?_update_self→Vq,size_push→Vt,get?_push_ne→V6,size_update→Wy,SameBut→WN,get?_push_cases→Zw,get?_update_ne→ZL,IsTuple→abD
open PySem.Heap.SameBut renaming update→VL
open PySem.NameKind renaming free→Wz,cell→aa6
open PySem.Obj renaming mapSeq→Vh,mapFields→Zq,putSet→abd
open PySem.Paired renaming length→aa5
open PySem.PassesOwn renaming never→U3
open PySem.SeqAt.EqAt renaming int_int→Z0
open PySem.SetTable renaming below→V9,grown→Yt
open PySem.SetTable.below renaming go→Y8
open PySem.SetTable.probe renaming go→abr
open PySem.Shared renaming heap→aab
open PySem.Str renaming ofString→WM
open PySem.Value renaming none→U0,ref→U5,int→XR,type→X7,bool→aaw
open PySem.W renaming Frag→Ut,Frag→UT,mg_none_of→VR,kia_one→Wr,kas_item→Xu,nsIn→Ym,kitOne→YG,fnOf→Y9,kas_cmp→ZM,keepIn→Z1,kas_item_eq→Z9,codeIn→aaV,methodObj→abt,instObj→ab4
open PySem.W.KasT renaming kasWp→XF,kasWp_bind→ZD
open PySem.Walks renaming list→aa9
open StateT renaming run_pure→aaF
open Sum renaming inl→aax,inr→abq
open True renaming intro→Yr
open PySem
abbrev HK := List (List Nat × List Int)
abbrev HL := List (Addr × List Int)
abbrev HM := Option (Value × Nat)
abbrev HP := Option (Int × Tok)
abbrev HU := List (Option Expr)
abbrev HV := List (Addr × Addr)
abbrev HZ := List (VM × Value)
abbrev Ic := List (Addr × Xh)
abbrev Iq := List (VM × Addr)
abbrev Ix := Value->TF->Prop
abbrev Iy := List (List Nat)
abbrev IA := List (List Int)
abbrev IB := List (VM × Z2)
abbrev IC := Option Value
abbrev ID := Option Addr
abbrev IE := Option Bool
abbrev IF := List Value
abbrev IG := Option Int
abbrev IH := Option Nat
abbrev II := List Addr
abbrev IJ := List Expr
abbrev IL := List Stmt
abbrev IM := List Env
abbrev IN := List Int
abbrev IP := List Nat
abbrev IQ := List Str
abbrev IR := List VM
set_option Elab.async false
set_option linter.all false
set_option maxRecDepth 100000
namespace L2
open PySem PySem.Spec PyProof.Rows
abbrev Key:=Sum Int VM
def Dg:Key->Value->Bool
 | .inl k,v=>Value.isInt k v
 | .inr x,v=>Value.isStrOf x v
def S5 (w:Ve):Key->Int
 | .inl k=>hashInt k
 | .inr x=>hashStr w x
theorem cC:∀ {k:Key} {v:Value},Dg k v=true->(∃ i t,k=aax i/\v=XR i t)∨(∃ x t,k=abq x/\v=Value.str x t)
 | .inl i,v,h=>by
  obtain⟨t,e⟩:=Value.isInt_shape (k:=i) (v:=v) h
  exact .inl ⟨i,t,U,e⟩
 | .inr x,v,h=>by
  obtain⟨t,e⟩:=Value.isStrOf_shape (x:=x) (v:=v) h
  exact .inr ⟨x,t,U,e⟩
theorem Ep (i:Int)(t:Tok):Dg (.inl i) (.int i t)=true:=by simp [Dg,Value.isInt]
theorem Hu (x:VM)(t:Tok):Dg (.inr x) (.str x t)=true:=by simp [Dg,Value.isStrOf]
theorem QF (a b:Int):decide ((aax a:Key)=aax b)=(a == b):=by
 by_cases e:a=b
 ·subst e;simp
 ·have h:¬ (aax a:Key)=aax b:=fun q=>e (Sum.inl.inj q)
  rw[decide_eq_false h]
  exact (beq_eq_false_iff_ne.mpr e).symm
theorem Pk (a b:VM):decide ((abq a:Key)=abq b)=decide (a=b):=by
 by_cases e:a=b
 ·subst e;simp
 ·have h:¬ (abq a:Key)=abq b:=fun q=>e (Sum.inr.inj q)
  rw[decide_eq_false h,decide_eq_false e]
theorem Pu (a:Int)(b:VM):decide ((aax a:Key)=abq b)=false:=decide_eq_false (fun q=>nomatch q)
theorem Pz (a:VM)(b:Int):decide ((abq a:Key)=aax b)=false:=decide_eq_false (fun q=>nomatch q)
def eO (prog:Uy)(w:Ve):PySem.KeyKind prog w Key where
 is:=Dg
 hash:=S5 w
 inj:=fun v a b ha hb=>by
  rcases cC ha with⟨i,t,rfl,rfl⟩ | ⟨x,t,rfl,rfl⟩
  ·rcases cC hb with⟨j,u,rfl,e⟩ | ⟨y,u,rfl,e⟩
   ·injection e with e1 _;rw[e1]
   ·exact nomatch e
  ·rcases cC hb with⟨j,u,rfl,e⟩ | ⟨y,u,rfl,e⟩
   ·exact nomatch e
   ·injection e with e1 _;rw[e1]
 byValue:=fun k v h=>by
  rcases cC h with⟨i,t,rfl,rfl⟩ | ⟨x,t,rfl,rfl⟩ <;> rfl
 pyHash:=fun hv h=>by
  rcases cC hv with⟨i,t,rfl,rfl⟩ | ⟨x,t,rfl,rfl⟩
  ·exact wpAny_pyHash_int h
  ·exact wpAny_pyHash_str h
 eqBool:=fun hu hv h=>by
  rcases cC hu with⟨i,t,rfl,rfl⟩ | ⟨x,t,rfl,rfl⟩
  ·rcases cC hv with⟨j,u,rfl,rfl⟩ | ⟨y,u,rfl,rfl⟩
   ·rw[QF] at h;exact aao h
   ·rw[Pu] at h;exact SeqAt.EqAt.int_str i t y u _ _ _ _ h
  ·rcases cC hv with⟨j,u,rfl,rfl⟩ | ⟨y,u,rfl,rfl⟩
   ·rw[Pz] at h;exact SeqAt.EqAt.str_int x t j u _ _ _ _ h
   ·rw[Pk] at h;exact wpAny_eqBool_str h
 «strs»:=fun k x t v h=>by
  rcases cC h with⟨i,u,rfl,e⟩ | ⟨y,u,rfl,e⟩
  ·exact nomatch e
  ·injection e with e1 _
   subst e1
   cases v <;> rfl
theorem yl (prog:Uy)(w:Ve)(i:Int)(t:Tok):(eO prog w).is (.inl i) (.int i t)=true:=Ep i t
theorem zf (prog:Uy)(w:Ve)(x:VM)(t:Tok):(eO prog w).is (.inr x) (.str x t)=true:=Hu x t
inductive V where
 | non | bl (b:Bool) | int (i:Int) | str (x:VM) | byt (b:Array UInt8) | flt (b:UInt64) | ref (a:Addr) | ty (n:String)
 deriving DecidableEq
def RelV:V->Value->Prop
 | .non,u=>u=U0
 | .bl b,u=>u=aaw b
 | .int i,u=>∃ t,u=XR i t
 | .str x,u=>∃ t,u=Value.str x t
 | .byt b,u=>∃ t,u=Value.bytes b t
 | .flt b,u=>∃ t,u=Value.float b t
 | .ref a,u=>u=U5 a
 | .ty n,u=>u=X7 n
abbrev Vals:List V->IF->Prop:=Paired RelV
theorem Vals.length {xs:List V}{us:IF}(r:Vals xs us):xs.length=us.length:=aa5 r
theorem Vals.get:∀ {xs:List V} {us:IF} {i:Nat} {x:V},Vals xs us->xs[i]? = some x->∃ u,us[i]? = some u/\RelV x u
 | _,_,_,_,.nil,e=>by simp at e
 | _,_,0,_,.cons r _,e=>by simp at e;subst e;exact⟨_,U,r⟩
 | _,_,i+1,x,.cons _ t,e=>by
  obtain⟨u,h1,h2⟩:=Vals.get (i:=i) (x:=x) t (by simpa using e)
  exact⟨u,by simpa using h1,h2⟩
theorem Vals.set {x:V}{u:Value}(r:RelV x u):∀ {xs:List V} {us:IF} (i:Nat),Vals xs us->Vals (xs.set i x) (us.set i u)
 | _,_,_,.nil=>.nil
 | _,_,0,.cons _ t=>.cons r t
 | _,_,i+1,.cons q t=>.cons q (Vals.set r i t)
theorem Vals.append:∀ {xs ys:List V} {us ws:IF},Vals xs us->Vals ys ws->Vals (xs++ys) (us++ws)
 | _,_,_,_,.nil,s=>s
 | _,_,_,_,.cons r t,s=>.cons r (Vals.append t s)
theorem Vals.take:∀ {xs:List V} {us:IF} (n:Nat),Vals xs us->Vals (xs.take n) (us.take n)
 | _,_,0,_=>.nil
 | _,_,_+1,.nil=>.nil
 | _,_,n+1,.cons r t=>.cons r (Vals.take n t)
theorem Vals.drop:∀ {xs:List V} {us:IF} (n:Nat),Vals xs us->Vals (xs.drop n) (us.drop n)
 | _,_,0,r=>r
 | _,_,_+1,.nil=>.nil
 | _,_,n+1,.cons _ t=>Vals.drop n t
def HD:Option V->IC->Prop
 | some v,some u=>RelV v u
 | none,none=>True
 | _,_=>False
def KV {κ:Type}:List (κ × V)->List (κ × Value)->Prop:=Paired fun (p:κ × V) (q:κ × Value)=>p.1=q.1/\RelV p.2 q.2
def kV:Key->V
 | .inl i=>.int i
 | .inr x=>.str x
inductive HO where
 /-- a list -/
 | lst (xs:List V)
 /-- a tuple (never changes) -/
 | tup (xs:List V)
 /-- a dict whose keys are ints and texts;one whose keys are tuples of ints and texts (the empty one is both) -/
 | dK (kvs:List (Key × V)) | dT (kvs:List (List Key × V))
 /-- a set of ints: its members,its size -/
 | set (S:Int->Bool) (n:Nat)
 /-- an instance of the class at C,its dict at dx,its attributes -/
 | ins (C dx:Addr) (fs:List (VM × V))
 /-- the dict of the instance at x -/
 | own (x:Addr)
 /-- the dict of an exception -/
 | xd (fs:List (VM × V))
 /-- a bound method,f of x -/
 | met (f x:Addr)
 /-- a range object lo,lo+1,.. below hi -/
 | rng (lo hi:Int)
 /-- a thing that is known to the object (the script;a dict while a loop walks it): read,never written while it is so -/
 | frz (o:Xh) (u:HO)
 /-- a code object's table -/
 | tbl (ps:Array Value)
 /-- any other thing,by what is true of its one object (a def of one's own: SetO a S n:=HO.ext fun h=>..) -/
 | ext (φ:Vv->Prop)
abbrev Hp:=Addr->Option HO
def upd (H:Hp)(a:Addr)(o:HO):Hp:=fun b=>if b=a then some o else H b
theorem aa {H:Hp}{a:Addr}{o:HO}:upd H a o a=some o:=by unfold upd;rw[if_pos U]
theorem aR {H:Hp}{a b:Addr}{o:HO}(h:b≠a):upd H a o b=H b:=by unfold upd;rw[if_neg h]
theorem Qo {H:Hp}{a b:Addr}{o u:HO}(h:H a=some o)(h':H b=some u)(d:o≠u):a≠b:=by
 intro e;subst e;rw[h] at h';exact d (U4 h')
theorem dC {H:Hp}{a b:Addr}{o:HO}(h:H a=some o)(h':H b=none):a≠b:=by
 intro e;subst e;rw[h] at h';cases h'
section
variable (P:Uy)(w:Ve)
def eE (H:Hp)(h:Vv)(a:Addr):HO->Prop
 | .lst xs=>xs.length<=sizeLine/\∃ (its:IF) (n:Nat),Vals xs its/\h.get? a=some { cls:=.type "list",data:=.seq its.toArray n }
 | .tup xs=>xs.length<=sizeLine/\∃ its:IF,Vals xs its/\IsTup h a its.toArray
 | .dK kvs=>kvs.length<=sizeLine/\(a == YX)=false/\∃ vs,KV kvs vs/\h.DictOf (eO P w) a vs
 | .dT kvs=>kvs.length<=sizeLine/\(a == YX)=false/\∃ xs:List (List Key × Addr × Value),
   Paired (fun (p:List Key × V) (q:List Key × Addr × Value)=>p.1=q.1/\H q.2.1=some (.tup (p.1.map kV))/\RelV p.2 q.2.2) kvs xs ∧
   ∃ o es ep,h.get? a=some o/\o.ExactDict/\o.data = .dict es ep/\es.toList=xs.map (entryOfKey (abI (eO P w)))/\(xs.map (·.1)).Nodup
 | .set S n=>h.SetOf (Yx P w) a S n
 | .ins C dx fs=>H dx=some (.own a)/\fs.length<=1000/\dx≠a/\h.get? a=some (ab4 C dx) ∧
   ∃ mA,h.Ns1 dx mA/\(∀ f,HD (fs.lookup f) (mA f))/\PySem.Within mA (fs.map (·.1))
 | .own _=>∃ o,h.get? a=some o
 | .xd fs=>∃ mA,h.Ns1 a mA/\∀ f,HD (fs.lookup f) (mA f)
 | .rng lo hi=>∃ t u v,h.get? a=some { cls:=.type "range",data:=.fields #[.int lo t,.int hi u,.int 1 v] }
 | .frz o u=>h.get? a=some o/\eE H h a u
 | .tbl ps=>h.get? a=some { cls:=.none,data:=.fields ps }
 | .met f x=>h.get? a=some (abt (.ref f) (.ref x))
 | .ext φ=>φ h/\(∃ o,h.get? a=some o)/\∀ h1 h2:Vv,φ h1->(∀ o,h1.get? a=some o->h2.get? a=some o)->φ h2
def HOk (H:Hp)(h:Vv):Prop:=∀ a o,H a=some o->eE P w H h a o
end
section
variable {P:Uy}{w:Ve}{H H':Hp}{h h':Vv}{a:Addr}{o:HO}
theorem eE.lt (x:eE P w H h a o):a < h.objs.size:=by
 cases o with
 | lst xs=>obtain⟨_,_,_,_,e⟩:=x;exact Uk e
 | tup xs=>obtain⟨_,_,_,p⟩:=x;exact p.lt
 | dK kvs=>obtain⟨_,_,_,_,o,_,_,e,_⟩:=x;exact Uk e
 | dT kvs=>obtain⟨_,_,_,_,o,_,_,e,_⟩:=x;exact Uk e
 | set S n=>obtain⟨o,_,_,_,e,_⟩:=x;exact Uk e
 | ins C dx fs=>obtain⟨_,_,_,e,_⟩:=x;exact Uk e
 | own y=>obtain⟨_,e⟩:=x;exact Uk e
 | xd fs=>obtain⟨_,⟨_,_,_,e,_⟩,_⟩:=x;exact Uk e
 | rng lo hi=>obtain⟨_,_,_,e⟩:=x;exact Uk e
 | frz ob u=>obtain⟨e,_⟩:=x;exact Uk e
 | tbl ps=>exact Uk (show h.get? a=some _ from x)
 | met f y=>exact Uk (show h.get? a=some _ from x)
 | ext φ=>obtain⟨_,⟨_,e⟩,_⟩:=x;exact Uk e
theorem Paired.Rq {α β:Type}{F G:α->β->Prop}:∀ {l₁:List α} {l₂:List β},Paired F l₁ l₂->(∀ a b,F a b->G a b)->Paired G l₁ l₂
 | _,_,.nil,_=>.nil
 | _,_,.cons r t,f=>.cons (f _ _ r) (Paired.Rq t f)
theorem eE.stay (x:eE P w H h a o)(k:∀ b u,(b=a∨H b=some (.own a))->h.get? b=some u->h'.get? b=some u)
  (ho:∀ b,H b=some (.own a)->H' b=some (.own a)) (ht:∀ b xs,H b=some (.tup xs)->H' b=some (.tup xs)):eE P w H' h' a o:=by
 induction o with
 | lst xs=>obtain⟨z,its,n,r,e⟩:=x;exact⟨z,its,n,r,k _ _ (.inl U) e⟩
 | tup xs=>obtain⟨z,its,r,ob,e,c⟩:=x;exact⟨z,its,r,ob,k _ _ (.inl U) e,c⟩
 | dK kvs=>obtain⟨z,y,vs,r,ob,es,ep,e,c⟩:=x;exact⟨z,y,vs,r,ob,es,ep,k _ _ (.inl U) e,c⟩
 | dT kvs =>
  obtain⟨z,y,xs,r,ob,es,ep,e,c⟩:=x
  exact⟨z,y,xs,Paired.Rq r fun p q z=>⟨z.1,ht _ _ z.2.1,z.2.2⟩,ob,es,ep,k _ _ (.inl U) e,c⟩
 | set S n=>obtain⟨ob,es,ep,t,e,c⟩:=x;exact⟨ob,es,ep,t,k _ _ (.inl U) e,c⟩
 | ins C dx fs =>
  obtain⟨d,z,ne,e,mA,⟨od,es,ep,e2,c⟩,r⟩:=x
  exact⟨ho _ d,z,ne,k _ _ (.inl U) e,mA,⟨od,es,ep,k _ _ (.inr d) e2,c⟩,r⟩
 | own y=>obtain⟨ob,e⟩:=x;exact⟨ob,k _ _ (.inl U) e⟩
 | xd fs=>obtain⟨mA,⟨od,es,ep,e,c⟩,r⟩:=x;exact⟨mA,⟨od,es,ep,k _ _ (.inl U) e,c⟩,r⟩
 | rng lo hi=>obtain⟨t,u,v,e⟩:=x;exact⟨t,u,v,k _ _ (.inl U) e⟩
 | frz ob u ih=>obtain⟨e,q⟩:=x;exact⟨k _ _ (.inl U) e,ih q⟩
 | tbl ps =>
  have e:h.get? a=some { cls:=.none,data:=.fields ps }:=x
  show h'.get? a=some { cls:=.none,data:=.fields ps }
  exact k a _ (.inl U) e
 | met f y =>
  have e:h.get? a=some (abt (.ref f) (.ref y)):=x
  show h'.get? a=some (abt (.ref f) (.ref y))
  exact k a _ (.inl U) e
 | ext φ=>obtain⟨p,⟨o,e⟩,st⟩:=x;exact⟨st _ _ p fun o q=>k _ _ (.inl U) q,⟨o,k _ _ (.inl U) e⟩,st⟩
theorem HOk.lt (x:HOk P w H h)(e:H a=some o):a < h.objs.size:=(x a o e).lt
theorem HOk.fresh (x:HOk P w H h)(e:h.objs.size<=a):H a=none:=by
 cases q:H a with
 | none=>rfl
 | some u=>exact absurd (Us (x.lt q) e) (Wq _)
theorem HOk.kept (x:HOk P w H h)(k:∀ b u,h.get? b=some u->h'.get? b=some u):HOk P w H h':=fun a o e =>
 (x a o e).stay (fun b u _ q=>k b u q) (fun _ q=>q) fun _ _ q=>q
theorem HOk.laid (x:HOk P w H h)(k:∀ b u,h.get? b=some u->h'.get? b=some u)(hp:h.objs.size<=a)(new:eE P w (upd H a o) h' a o):HOk P w (upd H a o) h':=fun b u e=>by
 have hn:=x.fresh hp
 by_cases hb:b=a
 ·subst hb;rw[aa] at e;cases e;exact new
 ·rw[aR hb] at e
  exact (x b u e).stay (fun c v _ q=>k c v q) (fun c q=>by rw[aR (dC q hn)];exact q) fun c xs q=>by rw[aR (dC q hn)];exact q
end
def Rd (H:Hp)(a:Addr)(u:HO):Prop:=H a=some u∨∃ o,H a=some (.frz o u)
theorem Rd.ok {P:Uy}{w:Ve}{H:Hp}{h:Vv}{a:Addr}{u:HO}(r:Rd H a u)(x:HOk P w H h):eE P w H h a u:=by
 rcases r with r | ⟨o,r⟩
 ·exact x a u r
 ·obtain⟨_,q⟩:=x a _ r
  exact q
def Mut:Option HO->Prop
 | some (.lst _)=>True
 | some (.dK _)=>True
 | some (.dT _)=>True
 | some (.set _ _)=>True
 | some (.ins _ _ _)=>True
 | some (.ext _)=>True
 | _=>False
section
variable {P:Uy}{w:Ve}{H:Hp}{h h':Vv}{x e:Addr}{o':HO}
theorem HOk.write (ok:HOk P w H h)(mu:Mut (H x))(he:e=x∨H e=some (.own x))(k:∀ b u,b≠e->h.get? b=some u->h'.get? b=some u)(heo:∃ u,h'.get? e=some u)
  (new:eE P w (upd H x o') h' x o'):HOk P w (upd H x o') h':=fun b u q=>by
 have nown:∀ c y,H c=some (.own y)->c≠x:=fun c y r z=>by subst z;rw[r] at mu;exact mu
 have ntup:∀ c xs,H c=some (.tup xs)->c≠x:=fun c xs r z=>by subst z;rw[r] at mu;exact mu
 by_cases hb:b=x
 ·subst hb;rw[aa] at q;cases q;exact new
 ·rw[aR hb] at q
  by_cases hbe:b=e
  ·have q':H b=some (.own x):=by
    rcases he with z | z
    ·exact absurd (hbe.trans z) hb
    ·rw[hbe];exact z
   rw[q] at q';cases q'
   obtain⟨v,hv⟩:=heo
   exact⟨v,by rw[hbe];exact hv⟩
  ·refine (ok b u q).stay (fun c v hc r=>k c v ?_ r) (fun c r=>by rw[aR (nown c b r)];exact r) fun c xs r=>by rw[aR (ntup c xs r)];exact r
   rcases hc with rfl | hc
   ·exact hbe
   ·rintro rfl
    rcases he with z | z
    ·exact nown c b hc z
    ·rw[hc] at z;cases z;exact hb U
end
structure Un (fs ex:II)(H H':Hp)(h h':Vv):Prop where
 keep:∀ b o,h.get? b=some o->H b=none->b ∉ fs->b ∉ ex->h'.get? b=some o
 slot:∀ b o,h.get? b=some o->H b=none->b∈fs->b ∉ ex->∃ sl,h'.get? b=some { o with slots:=sl }
 free:∀ b o,h.get? b=some o->H b=none->b ∉ ex->H' b=none
 there:∀ b o,h.get? b=some o->b ∉ ex->∃ o',h'.get? b=some o'
 tups:∀ b xs,H b=some (.tup xs)->H' b=some (.tup xs)
 frzs:∀ b o u,H b=some (.frz o u)->H' b=some (.frz o u)
 tbls:∀ b ps,H b=some (.tbl ps)->∃ more,H' b=some (.tbl (ps++more))
section
variable {fs fs' ex ex':II}{H H1 H2:Hp}{h h1 h2 h':Vv}{a x e:Addr}{o:HO}
theorem Un.any (u:Un fs ex H H1 h h1){b:Addr}{ob:Xh}(q:h.get? b=some ob)(n:H b=none)(hx:b ∉ ex):∃ sl,h1.get? b=some { ob with slots:=sl }:=by
 by_cases hb:b∈fs
 ·exact u.slot b ob q n hb hx
 ·exact⟨ob.slots,u.keep b ob q n hb hx⟩
theorem Un.trans (a:Un fs ex H H1 h h1)(b:Un fs ex H1 H2 h1 h2):Un fs ex H H2 h h2 where
 keep:=fun c ob q n hc hx=>b.keep c ob (a.keep c ob q n hc hx) (a.free c ob q n hx) hc hx
 slot:=fun c ob q n hc hx=>by
  obtain⟨sl,e1⟩:=a.slot c ob q n hc hx
  obtain⟨sl',e2⟩:=b.slot c _ e1 (a.free c ob q n hx) hc hx
  exact⟨sl',e2⟩
 free:=fun c ob q n hx=>by
  obtain⟨o',e1⟩:=a.there c ob q hx
  exact b.free c o' e1 (a.free c ob q n hx) hx
 there:=fun c ob q hx=>by
  obtain⟨o',e1⟩:=a.there c ob q hx
  exact b.there c o' e1 hx
 tups:=fun c xs q=>b.tups c xs (a.tups c xs q)
 frzs:=fun c ob xs q=>b.frzs c ob xs (a.frzs c ob xs q)
 tbls:=fun c ps q=>by
  obtain⟨m1,e1⟩:=a.tbls c ps q
  obtain⟨m2,e2⟩:=b.tbls c _ e1
  exact⟨m1++m2,by rw[e2,Array.append_assoc]⟩
theorem Un.kept (k:∀ b u,h.get? b=some u->h'.get? b=some u):Un fs ex H H h h' :=
 ⟨fun b ob q _ _ _=>k b ob q,fun b ob q _ _ _=>⟨ob.slots,k b ob q⟩,fun _ _ _ n _=>n,fun b ob q _=>⟨ob,k b ob q⟩,fun _ _ q=>q,fun _ _ _ q=>q,fun _ ps q=>⟨#[],by rw[q];simp⟩⟩
theorem Un.refl:Un fs ex H H h h:=Un.kept fun _ _ q=>q
theorem Un.laid (k:∀ b u,h.get? b=some u->h'.get? b=some u)(hp:h.objs.size<=a)(hn:H a=none):Un fs ex H (upd H a o) h h' where
 keep:=fun b u q _ _ _=>k b u q
 slot:=fun b u q _ _ _=>⟨u.slots,k b u q⟩
 free:=fun b u q n _=>by rw[aR (Uq (Us (Uk q) hp))];exact n
 there:=fun b u q _=>⟨u,k b u q⟩
 tups:=fun b xs q=>by rw[aR (dC q hn)];exact q
 frzs:=fun b u xs q=>by rw[aR (dC q hn)];exact q
 tbls:=fun b ps q=>⟨#[],by rw[aR (dC q hn),q];simp⟩
theorem Un.write (mu:Mut (H x))(he:e=x∨H e=some (.own x))(k:∀ b u,b≠e->h.get? b=some u->h'.get? b=some u)(heo:∃ u,h'.get? e=some u):Un fs ex H (upd H x o) h h':=by
 have hx:∀ b,H b=none->b≠x:=fun b n z=>by subst z;rw[n] at mu;exact mu
 have hb:∀ b,H b=none->b≠e:=fun b n z=>by
  subst z
  rcases he with r | r
  ·exact hx b n r
  ·rw[n] at r;cases r
 have hm:∀ b u,H b=some u->¬ Mut (some u)->b≠x:=fun b u q nm z=>by subst z;rw[q] at mu;exact nm mu
 refine⟨fun b u q n _ _=>k b u (hb b n) q,fun b u q n _ _=>⟨u.slots,k b u (hb b n) q⟩,fun b u q n _=>by rw[aR (hx b n)];exact n,fun b u q _=>?_,
  fun b xs q=>by rw[aR (hm b _ q fun z=>z)];exact q,fun b u xs q=>by rw[aR (hm b _ q fun z=>z)];exact q,fun b ps q=>⟨#[],by rw[aR (hm b _ q fun z=>z),q];simp⟩⟩
 by_cases hbe:b=e
 ·subst hbe;exact heo
 ·exact⟨u,k b u hbe q⟩
end
def trk (h:Vv)(H:Hp):II:=(Ui h.objs.size).filter fun a=>(H a).isSome
def Jb (h:Vv)(H:Hp):Vv:=PySem.W.hideAll h (trk h H)
theorem Gv (h:Vv)(H:Hp):(Jb h H).objs.size=h.objs.size:=PySem.W.hideAll_size _ _
theorem Kl {h:Vv}{H:Hp}{b:Addr}{o:Xh}(e:h.get? b=some o)(n:H b=none):(Jb h H).get? b=some o :=
 PySem.W.hideAll_get _ e fun hm=>by
  have q:(H b).isSome=true:=(List.mem_filter.mp hm).2
  rw[n] at q;simp at q
theorem N6 {h:Vv}{H:Hp}{b:Addr}{o:Xh}(e:(Jb h H).get? b=some o):h.get? b=some o/\H b=none:=by
 have e':h.get? b=some o:=PySem.W.of_hideAll (trk h H) e
 refine⟨e',?_⟩
 cases q:H b with
 | none=>rfl
 | some x =>
  have hm:b∈trk h H:=List.mem_filter.mpr ⟨List.mem_range.mpr (Uk e'),by simp [q]⟩
  have z:(Jb h H).get? b=none:=PySem.W.hideAll_none (trk h H) hm
  rw[z] at e;cases e
def Ml (g h:Vv)(L:Addr):Ic:=(Ui h.objs.size).filterMap fun a=>if a=L∨(g.get? a).isSome=true then none else (h.get? a).map fun o=>(a,o)
def rest (g h:Vv)(L d:Addr):Ic:=(Ml g h L).filter fun p=>decide (p.1≠d)
structure Mod (K:Ut)(mg:VM->IC)(base:Vv):Prop where
 kin:K.In base
 glob:base.Ns U8 mg
 blt:∃ mb,base.Ns builtinsNs mb/\∀ x:VM,x≠"__name__"->mb x=VF x
 nolimit:base.NoLimit
structure Cx where
 prog:Uy
 w:Ve
 K:Ut
 mg:VM->IC
 base:Vv
 A:Vf
 N:IR
 s₀:TF
 H₀:Hp
 env:Env
 outer:IM
 stack:IM
 ex:II
 fn:VM->Bool
 calm:Bool
 pn:Ic
 xe:Ix
def frs (l:IM):II:=l.filterMap (·.frame)
abbrev Cx.fs (X:Cx):II:=frs X.outer
def Vis (sc:Yz)(x:VM):Prop:=sc.names.lookup x=some .local∨sc.names.lookup x=some .cell∨sc.names.lookup x=some .free
def Loc (sc:Yz)(x:VM):Prop:=sc.names.lookup x=some .local∨sc.names.lookup x=some .cell
def Look (env:Env)(h:Vv)(m:VM->IC)(x:VM)(u:Value):Prop :=
 (env.kindOf x=some .local/\m x=some u)∨((env.kindOf x=some .cell∨env.kindOf x=some .free)/\∃ c,env.cells.lookup x=some c/\h.IsCell c (some u))
structure Cx.Ok (X:Cx):Prop where
 mod:Mod X.K X.mg X.base
 kind:X.env.scope.kind = .function
 glob:X.env.globals=U8
 blt:X.env.builtins=builtinsNs
 above:X.s₀.heap.objs.size<=X.env.locals
 inj:∀ x y c,X.env.cells.lookup x=some c->X.env.cells.lookup y=some c->x=y
 has:∀ x,(X.env.kindOf x=some .cell∨X.env.kindOf x=some .free)->∃ c,X.env.cells.lookup x=some c
 cab:∀ x c,X.fn x=true->X.env.cells.lookup x=some c->X.s₀.heap.objs.size<=c
 hd:X.calm=true->X.A.handled=none
 frames:X.A.frames=some X.stack
 stk:X.stack=X.outer∨(X.stack=X.env::X.outer/\X.env.frame=some X.env.locals)
 exf:∀ b∈X.ex,b≠X.env.locals/\∀ x c,X.env.cells.lookup x=some c->c≠b
 bs:∀ b o,X.base.get? b=some o->X.s₀.heap.get? b=some o/\X.H₀ b=none
 bsz:X.base.objs.size<=X.s₀.heap.objs.size
 noex:∀ b o,X.base.get? b=some o->b ∉ X.ex
 exfs:∀ b∈X.ex,b ∉ X.fs
 Gf:X.s₀.heap.FunFrames X.base X.outer
 frf:∀ b∈X.fs,X.H₀ b=none
structure Inv (X:Cx)(ZY:Ic)(σ:List (Option V))(H:Hp)(s:TF):Prop where
 ok:X.Ok
 os:s.os=X.s₀.os
 bare:aaC s.gens
 base:Un X.fs X.ex X.H₀ H X.s₀.heap s.heap
 loc:∃ m,s.heap.Ns X.env.locals m/\∀ (i:Nat) (x:VM) (v:V),X.N[i]? = some x->σ[i]? = some (some v)->Vis X.env.scope x->∃ u,RelV v u/\Look X.env s.heap m x u
 cell:∀ x c,X.env.cells.lookup x=some c->∃ v,s.heap.IsCell c v
 free:H X.env.locals=none
 freeC:∀ x c,X.env.cells.lookup x=some c->H c=none
 pin:∀ p∈X.pn++ZY,s.heap.get? p.1=some p.2/\H p.1=none/\p.1≠X.env.locals/\p.1 ∉ X.fs/\∀ v,p.2.data≠.cell v
 hok:HOk X.prog X.w H s.heap
 len:σ.length=X.N.length
section
variable {X:Cx}{ZY:Ic}{σ:List (Option V)}{H H':Hp}{s:TF}{h':Vv}
theorem Cx.Ok.S8 (ok:X.Ok){b:Addr}{o:Xh}(e:X.base.get? b=some o):b ∉ X.fs:=fun hb=>by
 have:=(ok.Gf.mem hb).1
 rw[e] at this;cases this
theorem Inv.bs (I:Inv X ZY σ H s):∀ b o,X.base.get? b=some o->s.heap.get? b=some o/\H b=none:=fun b o e =>
 ⟨I.base.keep b o (I.ok.bs b o e).1 (I.ok.bs b o e).2 (I.ok.S8 e) (I.ok.noex b o e),I.base.free b o (I.ok.bs b o e).1 (I.ok.bs b o e).2 (I.ok.noex b o e)⟩
theorem Inv.bk (I:Inv X ZY σ H s):∀ b o,X.base.get? b=some o->s.heap.get? b=some o:=fun b o e=>(I.bs b o e).1
theorem Inv.mod (I:Inv X ZY σ H s):Mod X.K X.mg X.base:=I.ok.mod
theorem Inv.kIn (I:Inv X ZY σ H s):X.K.In s.heap:=I.ok.mod.kin.keeps I.bk
theorem Inv.lt (I:Inv X ZY σ H s):X.env.locals < s.heap.objs.size:=let ⟨_,hn,_⟩:=I.loc;hn.lt
theorem Inv.sz (I:Inv X ZY σ H s):X.s₀.heap.objs.size<=s.heap.objs.size:=Vd I.ok.above (Yy I.lt)
theorem Inv.Sy (I:Inv X ZY σ H s){a:Addr}(h:s.heap.objs.size<=a):a ∉ X.fs:=fun hb=>by
 obtain⟨_,o,ho,_⟩:=I.ok.Gf.mem hb
 exact absurd (Us (Uk ho) (Vd I.sz h)) (Wq _)
theorem Inv.cne (I:Inv X ZY σ H s):∀ x c,X.env.cells.lookup x=some c->c≠X.env.locals:=fun x c e z=>by
 obtain⟨v,o,ho,hd⟩:=I.cell x c e
 obtain⟨m,⟨o',es,ep,ho',hd',_⟩,_⟩:=I.loc
 rw[z,ho'] at ho;cases ho;rw[hd'] at hd;cases hd
theorem Inv.Gf (I:Inv X ZY σ H s):s.heap.FunFrames X.base X.outer:=by
 have all:∀ (l:IM),(∀ b∈frs l,b∈X.fs)->X.s₀.heap.FunFrames X.base l->s.heap.FunFrames X.base l:=by
  intro l
  induction l with
  | nil=>intro _ _;trivial
  | cons env r ih =>
   intro hs hl
   obtain⟨hk,⟨L,o,hf,hn,ho,hd⟩,hr⟩:=hl
   have hL:L∈X.fs:=hs L (by unfold frs;rw[ZK,hf];exact TY)
   obtain⟨sl,e⟩:=I.base.slot L o ho (I.ok.frf L hL) hL fun z=>I.ok.exfs L z hL
   exact⟨hk,⟨L,_,hf,hn,e,hd⟩,ih (fun b hb=>hs b (by unfold frs;rw[ZK,hf];exact TX _ hb)) hr⟩
 exact all X.outer (fun _ hb=>hb) I.ok.Gf
theorem Inv.stack (I:Inv X ZY σ H s):s.heap.FunFrames X.base X.stack:=by
 rcases I.ok.stk with e | ⟨e,hf⟩
 ·rw[e];exact I.Gf
 ·rw[e]
  obtain⟨m,hn,_⟩:=I.loc
  refine .cons (by rw[I.ok.kind];decide) hf hn ?_ I.Gf
  exact Heap.get?_none_of_le (Vd I.ok.bsz I.ok.above)
theorem Inv.Hm (I:Inv X ZY σ H s):∀ b∈frs X.stack,b∈X.env.locals::X.fs:=fun b hb=>by
 rcases I.ok.stk with e | ⟨e,hf⟩
 ·rw[e] at hb;exact TX _ hb
 ·rw[e] at hb
  unfold frs at hb
  rw[ZK,hf] at hb
  exact hb
theorem Inv.GQ (I:Inv X ZY σ H s):∀ b∈frs X.stack,H b=none:=fun b hb=>by
 rcases List.mem_cons.mp (I.Hm b hb) with e | hb
 ·rw[e];exact I.free
 ·obtain⟨_,o,ho,_⟩:=I.ok.Gf.mem hb
  exact I.base.free b o ho (I.ok.frf b hb) fun z=>I.ok.exfs b z hb
theorem Inv.step {g':Array GenState}{t':Nat}{d':Drawn}{ch:II}(I:Inv X ZY σ H s)
  (hch:∀ b∈ch,(b∈X.ex∨X.s₀.heap.objs.size<=b)/\b≠X.env.locals/\(∀ x c,X.env.cells.lookup x=some c->c≠b)/\∀ p∈X.pn++ZY,p.1≠b)
  (keep:∀ b o,b≠X.env.locals->b ∉ X.fs->b ∉ ch->s.heap.get? b=some o->H b=none->h'.get? b=some o)
  (slot:∀ b o,b≠X.env.locals->b∈X.fs->b ∉ ch->s.heap.get? b=some o->H b=none->∃ sl,h'.get? b=some { o with slots:=sl }) (free:∀ b o,b ∉ ch->s.heap.get? b=some o->H b=none->H' b=none)
  (there:∀ b o,b ∉ ch->s.heap.get? b=some o->∃ o',h'.get? b=some o')
  (tups:∀ b xs,H b=some (.tup xs)->H' b=some (.tup xs)) (frzs:∀ b o u,H b=some (.frz o u)->H' b=some (.frz o u)) (tbls:∀ b ps,H b=some (.tbl ps)->∃ more,H' b=some (.tbl (ps++more)))
  (ns:∀ m,s.heap.Ns X.env.locals m->h'.Ns X.env.locals m) (hok:HOk X.prog X.w H' h') (hg:aaC g') :
  Inv X ZY σ H' { s with heap:=h',gens:=g',drawn:=d',toks:=t' }:=by
 have neL:∀ b o,X.s₀.heap.get? b=some o->b≠X.env.locals:=fun b o e=>Uq (Us (Uk e) I.ok.above)
 have neC:∀ b o,X.s₀.heap.get? b=some o->b ∉ X.ex->b ∉ ch:=fun b o e hx hb=>by
  rcases (hch b hb).1 with z | z
  ·exact hx z
  ·exact absurd (Us (Uk e) z) (Wq _)
 have cellK:∀ x c,X.env.cells.lookup x=some c->∀ v,s.heap.IsCell c v->h'.IsCell c v:=fun x c e v ⟨o,ho,hd⟩=>by
  have nch:c ∉ ch:=fun z=>(hch c z).2.2.1 x c e U
  by_cases hc:c∈X.fs
  ·obtain⟨sl,q⟩:=slot c o (I.cne x c e) hc nch ho (I.freeC x c e)
   exact⟨_,q,hd⟩
  ·exact⟨o,keep c o (I.cne x c e) hc nch ho (I.freeC x c e),hd⟩
 refine⟨I.ok,I.os,hg,⟨fun b o e n hb hx=>?_,fun b o e n hb hx=>?_,fun b o e n hx=>?_,fun b o e hx=>?_,fun b xs e=>tups b xs (I.base.tups b xs e),fun b o xs e=>frzs b o xs (I.base.frzs b o xs e),fun b ps e=>?_⟩,?_,fun x c e=>?_,?_,fun x c e=>?_,fun p hp=>?_,hok,I.len⟩
 ·exact keep b o (neL b o e) hb (neC b o e hx) (I.base.keep b o e n hb hx) (I.base.free b o e n hx)
 ·obtain⟨sl,e1⟩:=I.base.slot b o e n hb hx
  obtain⟨sl',e2⟩:=slot b _ (neL b o e) hb (neC b o e hx) e1 (I.base.free b o e n hx)
  exact⟨sl',e2⟩
 ·obtain⟨o',e1⟩:=I.base.there b o e hx
  exact free b o' (neC b o e hx) e1 (I.base.free b o e n hx)
 ·obtain⟨o',e1⟩:=I.base.there b o e hx
  exact there b o' (neC b o e hx) e1
 ·obtain⟨m1,e1⟩:=I.base.tbls b ps e
  obtain⟨m2,e2⟩:=tbls b _ e1
  exact⟨m1++m2,by rw[e2,Array.append_assoc]⟩
 ·obtain⟨m,hn,hl⟩:=I.loc
  refine⟨m,ns m hn,fun i x v e1 e2 e3=>?_⟩
  obtain⟨u,r,l⟩:=hl i x v e1 e2 e3
  refine⟨u,r,?_⟩
  rcases l with l | ⟨k,c,e,z⟩
  ·exact .inl l
  ·exact .inr ⟨k,c,e,cellK x c e _ z⟩
 ·obtain⟨v,z⟩:=I.cell x c e
  exact⟨v,cellK x c e v z⟩
 ·obtain⟨m,⟨o,_,_,ho,_⟩,_⟩:=I.loc
  exact free _ o (fun z=>(hch _ z).2.1 U) ho I.free
 ·obtain⟨v,o,ho,hd⟩:=I.cell x c e
  exact free c o (fun z=>(hch c z).2.2.1 x c e U) ho (I.freeC x c e)
 ·obtain⟨e,n,ne,nf,d⟩:=I.pin p hp
  have nch:p.1 ∉ ch:=fun z=>(hch p.1 z).2.2.2 p hp U
  exact⟨keep p.1 p.2 ne nf nch e n,free p.1 p.2 nch e n,ne,nf,d⟩
theorem Inv.un {t':Nat}(I:Inv X ZY σ H s)(u:Un X.fs [] H H' s.heap h')(hok:HOk X.prog X.w H' h'):Inv X ZY σ H' { s with heap:=h',toks:=t' }:=by
 obtain⟨m,⟨o,es,ep,ho,r⟩,_⟩:=id I.loc
 obtain⟨sl,hL⟩:=u.any ho I.free (by simp)
 exact I.step (g':=s.gens) (d':=s.drawn) (ch:=[]) (fun _ z=>nomatch z) (fun b o _ hb _ e n=>u.keep b o e n hb (by simp)) (fun b o _ hb _ e n=>u.slot b o e n hb (by simp)) (fun b o _ e n=>u.free b o e n (by simp)) (fun b o _ e=>u.there b o e (by simp)) u.tups u.frzs u.tbls (fun m' hm=>by
  obtain⟨o',es',ep',ho',r'⟩:=hm
  rw[ho] at ho';cases ho'
  exact⟨_,es',ep',hL,r'⟩) hok I.bare
theorem Inv.call {g':Array GenState}{t':Nat}{d':Drawn}{ch:II}(I:Inv X ZY σ H s)(u:Un (frs X.stack) ch H H' s.heap h')(hok:HOk X.prog X.w H' h')(hg:aaC g')
  (hch:∀ b∈ch,(b∈X.ex∨X.s₀.heap.objs.size<=b)/\b≠X.env.locals/\(∀ x c,X.env.cells.lookup x=some c->c≠b)/\∀ p∈X.pn++ZY,p.1≠b) :
  Inv X ZY σ H' { s with heap:=h',gens:=g',drawn:=d',toks:=t' }:=by
 obtain⟨m,⟨o,es,ep,ho,r⟩,_⟩:=id I.loc
 obtain⟨sl,hL⟩:=u.any ho I.free fun z=>(hch _ z).2.1 U
 exact I.step (ch:=ch) hch (fun b o hL hb hc e n=>u.keep b o e n (fun z=>(List.mem_cons.mp (I.Hm b z)).elim hL hb) hc) (fun b o _ _ hc e n=>u.any e n hc) (fun b o hc e n=>u.free b o e n hc) (fun b o hc e=>u.there b o e hc) u.tups u.frzs u.tbls (fun m' hm=>by
  obtain⟨o',es',ep',ho',r'⟩:=hm
  rw[ho] at ho';cases ho'
  exact⟨_,es',ep',hL,r'⟩) hok hg
theorem Inv.turned {t':Nat}{it:Addr}(I:Inv X ZY σ H s)(k:∀ b o,b≠it->s.heap.get? b=some o->h'.get? b=some o)(hn:H it=none)(hL:it≠X.env.locals)
  (h1:it∈X.ex∨X.s₀.heap.objs.size<=it) (h2:∀ x c,X.env.cells.lookup x=some c->c≠it) (h3:∀ p∈X.pn++ZY,p.1≠it):Inv X ZY σ H { s with heap:=h',toks:=t' }:=by
 have nit:∀ b u,H b=some u->b≠it:=fun b u e z=>by rw[z,hn] at e;cases e
 refine I.step (g':=s.gens) (d':=s.drawn) (ch:=[it]) (fun b hb=>?_) (fun b o _ _ hc e _=>k b o (fun z=>hc (by simp [z])) e) (fun b o _ _ hc e _=>⟨o.slots,k b o (fun z=>hc (by simp [z])) e⟩) (fun _ _ _ _ n=>n)
  (fun b o hc e=>⟨o,k b o (fun z=>hc (by simp [z])) e⟩) (fun _ _ e=>e) (fun _ _ _ e=>e) (fun b ps e=>⟨#[],by rw[e];simp⟩) (fun m hm=>?_) (fun b u e=>?_) I.bare
 ·have e:b=it:=by simpa using hb
  subst e
  exact⟨h1,hL,h2,h3⟩
 ·obtain⟨o,es,ep,ho,r⟩:=hm
  exact⟨o,es,ep,k _ o (Xd hL) ho,r⟩
 ·refine (I.hok b u e).stay (fun c v hc q=>k c v ?_ q) (fun _ q=>q) fun _ _ q=>q
  rcases hc with z | z
  ·rw[z];exact nit b u e
  ·exact nit c _ z
theorem Inv.tok (I:Inv X ZY σ H s)(t:Nat):Inv X ZY σ H { s with toks:=t }:=I.un (h':=s.heap) (t':=t) Un.refl I.hok
theorem Inv.kept {t':Nat}(I:Inv X ZY σ H s)(k:∀ b u,s.heap.get? b=some u->h'.get? b=some u):Inv X ZY σ H { s with heap:=h',toks:=t' }:=I.un (Un.kept k) (I.hok.kept k)
theorem Inv.laid {a:Addr}{o:HO}{t':Nat}(I:Inv X ZY σ H s)(k:∀ b u,s.heap.get? b=some u->h'.get? b=some u)(hp:s.heap.objs.size<=a)(new:eE X.prog X.w (upd H a o) h' a o) :
  Inv X ZY σ (upd H a o) { s with heap:=h',toks:=t' }:=I.un (Un.laid k hp (I.hok.fresh hp)) (I.hok.laid k hp new)
theorem Inv.write {x e:Addr}{o:HO}{t':Nat}(I:Inv X ZY σ H s)(mu:Mut (H x))(he:e=x∨H e=some (.own x))(k:∀ b u,b≠e->s.heap.get? b=some u->h'.get? b=some u)(heo:∃ u,h'.get? e=some u)
  (new:eE X.prog X.w (upd H x o) h' x o):Inv X ZY σ (upd H x o) { s with heap:=h',toks:=t' }:=I.un (Un.write mu he k heo) (I.hok.write mu he k heo new)
theorem Inv.Ih {ZY':Ic}(I:Inv X ZY σ H s)(h:∀ p∈ZY',s.heap.get? p.1=some p.2/\H p.1=none/\p.1≠X.env.locals/\p.1 ∉ X.fs/\∀ v,p.2.data≠.cell v):Inv X ZY' σ H s :=
 ⟨I.ok,I.os,I.bare,I.base,I.loc,I.cell,I.free,I.freeC,fun p hp=>(List.mem_append.mp hp).elim (fun z=>I.pin p (aaY _ z)) (h p),I.hok,I.len⟩
theorem Aa {N:IR}(hN:N.Nodup){i j:Nat}{x:VM}(a:N[i]? = some x)(b:N[j]? = some x):i=j:=by
 obtain⟨h1,e1⟩:=List.getElem?_eq_some_iff.mp a
 obtain⟨h2,e2⟩:=List.getElem?_eq_some_iff.mp b
 exact (abP hN).mp (e1.trans e2.symm)
theorem qm {M:Model}{A:Vf}{E:Ix}{i:Nat}{x:VM}{v:V}{u:Value}{Q:Unit->TF->Prop}(I:Inv X ZY σ H s)(hN:X.N.Nodup)(hi:X.N[i]? = some x)(hx:Loc X.env.scope x)(r:RelV v u)
  (h:∀ s',Inv X ZY (σ.set i (some v)) H s'->(∃ a,WN a s.heap s'.heap/\(a=X.env.locals∨X.env.cells.lookup x=some a))->Q () s') (hf:X.fn x=true∨X.env.scope.names.lookup x=some .local:=by first | exact .inl rfl | exact .inr rfl | assumption):Ug M A (storeName X.env x u) Q E s:=by
 obtain⟨m,hn,hl⟩:=id I.loc
 have hcls:(X.env.scope.kind == .class || (X.env.scope.kind == .module && X.env.locals != X.env.globals))=false:=by rw[I.ok.kind];rfl
 have hiσ:i < σ.length:=by rw[I.len];exact (List.getElem?_eq_some_iff.mp hi).1
 have cne:=I.cne
 have tracked:∀ {a:Addr} {h':Vv},(∃ o,s.heap.get? a=some o/\H a=none)->WN a s.heap h'->HOk X.prog X.w H h':=fun {a h'} ha hs b ob e=>by
  obtain⟨_,_,hfree⟩:=ha
  refine (I.hok b ob e).stay (fun c w' hc q=>(hs.2 c ?_).trans q) (fun _ q=>q) fun _ _ q=>q
  rintro rfl
  rcases hc with rfl | hc
  ·rw[hfree] at e;cases e
  ·rw[hfree] at hc;cases hc
 rcases hx with hk | hk
 ·refine wpAny_storeName_local hk hn (fun h' hn' hs=>?_) hcls
  obtain⟨oL,_,_,hoL,_⟩:=id hn
  refine h _ ⟨I.ok,I.os,I.bare,⟨fun b o e n hb hx=>?_,fun b o e n hb hx=>?_,I.base.free,fun b o e hx=>?_,I.base.tups,I.base.frzs,I.base.tbls⟩,⟨_,hn',fun j y v' e1 e2 e3=>?_⟩,fun y c e=>?_,I.free,I.freeC,fun p hp=>?_,tracked ⟨oL,hoL,I.free⟩ hs,by simpa using I.len⟩ ⟨_,hs,.inl U⟩
  ·exact (hs.2 b (Uq (Us (Uk e) I.ok.above))).trans (I.base.keep b o e n hb hx)
  ·obtain⟨sl,e1⟩:=I.base.slot b o e n hb hx
   exact⟨sl,(hs.2 b (Uq (Us (Uk e) I.ok.above))).trans e1⟩
  ·obtain⟨o',e1⟩:=I.base.there b o e hx
   exact⟨o',(hs.2 b (Uq (Us (Uk e) I.ok.above))).trans e1⟩
  ·by_cases hj:j=i
   ·subst hj
    rw[hi] at e1;cases e1
    rw[Yc hiσ] at e2
    cases e2
    exact⟨u,r,.inl ⟨hk,by simp⟩⟩
   ·rw[Zu (Xd hj)] at e2
    obtain⟨u',r',q⟩:=hl j y v' e1 e2 e3
    refine⟨u',r',?_⟩
    rcases q with⟨k,e⟩ | ⟨k,c,e,z⟩
    ·refine .inl ⟨k,?_⟩
     have:y≠x:=fun e=>hj (Aa hN e1 (e▸hi))
     simp [this,e]
    ·exact .inr ⟨k,c,e,z.sameBut hs (cne y c e)⟩
  ·obtain⟨w',z⟩:=I.cell y c e
   exact⟨w',z.sameBut hs (cne y c e)⟩
  ·obtain⟨e,n,ne,nf,d⟩:=I.pin p hp
   exact⟨(hs.2 p.1 ne).trans e,n,ne,nf,d⟩
 ·have hfn:X.fn x=true:=by
   rcases hf with z | z
   ·exact z
   ·rw[z] at hk;cases hk
  obtain⟨c,hc⟩:=I.ok.has x (.inl hk)
  obtain⟨w',z⟩:=I.cell x c hc
  refine wpAny_storeName_cell I.ok.kind hk hc z (fun h' hc' hs=>?_)
  obtain⟨oc,hoc,hocd⟩:=id z
  refine h { s with heap:=h' } ⟨I.ok,I.os,I.bare,⟨fun b o e n hb hx=>?_,fun b o e n hb hx=>?_,I.base.free,fun b o e hx=>?_,I.base.tups,I.base.frzs,I.base.tbls⟩,⟨m,hn.sameBut hs (Xd (cne x c hc)),fun j y v' e1 e2 e3=>?_⟩,fun y c' e=>?_,I.free,I.freeC,fun p hp=>?_,tracked ⟨oc,hoc,I.freeC x c hc⟩ hs,by simpa using I.len⟩ ⟨c,hs,.inr hc⟩
  ·exact (hs.2 b (Uq (Us (Uk e) (I.ok.cab x c hfn hc)))).trans (I.base.keep b o e n hb hx)
  ·obtain⟨sl,e1⟩:=I.base.slot b o e n hb hx
   exact⟨sl,(hs.2 b (Uq (Us (Uk e) (I.ok.cab x c hfn hc)))).trans e1⟩
  ·obtain⟨o',e1⟩:=I.base.there b o e hx
   exact⟨o',(hs.2 b (Uq (Us (Uk e) (I.ok.cab x c hfn hc)))).trans e1⟩
  ·by_cases hj:j=i
   ·subst hj
    rw[hi] at e1;cases e1
    rw[Yc hiσ] at e2
    cases e2
    exact⟨u,r,.inr ⟨.inl hk,c,hc,hc'⟩⟩
   ·rw[Zu (Xd hj)] at e2
    obtain⟨u',r',q⟩:=hl j y v' e1 e2 e3
    refine⟨u',r',?_⟩
    rcases q with q | ⟨k,c',e,z'⟩
    ·exact .inl q
    ·refine .inr ⟨k,c',e,z'.sameBut hs ?_⟩
     rintro rfl
     exact hj (Aa hN e1 (I.ok.inj _ _ _ e hc▸hi))
  ·by_cases hcc:c'=c
   ·subst hcc;exact⟨_,hc'⟩
   ·obtain⟨w2,z2⟩:=I.cell y c' e
    exact⟨w2,z2.sameBut hs hcc⟩
  ·obtain⟨e,n,ne,nf,d⟩:=I.pin p hp
   refine⟨(hs.2 p.1 ?_).trans e,n,ne,nf,d⟩
   intro q
   rw[q,hoc] at e
   have q':oc=p.2:=U4 e
   exact d w' (by rw[← q'];exact hocd)
theorem Bw {M:Model}{A:Vf}{E:Ix}{i:Nat}{x:VM}{v:V}{u:Value}{Q:Unit->TF->Prop}(I:Inv X ZY σ H s)(hN:X.N.Nodup)(hi:X.N[i]? = some x)(hx:Loc X.env.scope x)(r:RelV v u)
  (h:∀ s',Inv X ZY (σ.set i (some v)) H s'->Q () s') (hf:X.fn x=true∨X.env.scope.names.lookup x=some .local:=by first | exact .inl rfl | exact .inr rfl | assumption):Ug M A (storeName X.env x u) Q E s :=
 qm I hN hi hx r (fun s' I' _=>h s' I') hf
theorem Inv.call' {s':TF}{ch:II}(I:Inv X ZY σ H s)(ho:s'.os=s.os)(u:Un (frs X.stack) ch H H' s.heap s'.heap)(hok:HOk X.prog X.w H' s'.heap)(hg:aaC s'.gens)
  (hch:∀ b∈ch,(b∈X.ex∨X.s₀.heap.objs.size<=b)/\b≠X.env.locals/\(∀ x c,X.env.cells.lookup x=some c->c≠b)/\∀ p∈X.pn++ZY,p.1≠b):Inv X ZY σ H' s':=by
 obtain⟨h',g',d',t',o'⟩:=s'
 have e:o'=s.os:=ho
 subst e
 exact I.call (g':=g') (t':=t') (d':=d') u hok hg hch
end
abbrev XK:=Value->ID->Hp->Prop
abbrev St:=List (Option V)
abbrev VK:=V->Hp->Prop
abbrev TE:=St->Hp->VK->Prop
abbrev TT:=St->Hp->(Bool->Hp->Prop)->Prop
abbrev TA:=St->Hp->(List V->Hp->Prop)->Prop
structure Ends where
 nx:St->Hp->Prop
 rt:VK
 bk:St->Hp->Prop:=fun _ _=>False
 ct:St->Hp->Prop:=fun _ _=>False
abbrev TS:=Ends->St->Hp->Prop
inductive EP (X:Cx)(ZY:Ic)(σ:St)(Q:VK)(u:Value)(s':TF):Prop where
 | mk (v:V) (H':Hp) (z0:Inv X ZY σ H' s') (z1:RelV v u) (z2:Q v H'):EP X ZY σ Q u s'
def TP (X:Cx)(ZY:Ic)(σ:St)(Q:Bool->Hp->Prop)(b:Bool)(s':TF):Prop:=∃ H',Inv X ZY σ H' s'/\Q b H'
inductive AP (X:Cx)(ZY:Ic)(σ:St)(Q:List V->Hp->Prop)(us:IF)(s':TF):Prop where
 | mk (vs:List V) (H':Hp) (z0:Inv X ZY σ H' s') (z1:Vals vs us) (z2:Q vs H'):AP X ZY σ Q us s'
def SP (X:Cx)(ZY:Ic)(D:Ends)(f:Flow)(s':TF):Prop :=
 match f with
 | .next=>∃ σ' H',Inv X ZY σ' H' s'/\D.nx σ' H'
 | .brk=>∃ σ' H',Inv X ZY σ' H' s'/\D.bk σ' H'
 | .cont=>∃ σ' H',Inv X ZY σ' H' s'/\D.ct σ' H'
 | .ret u=>∃ v σ' H',Inv X ZY σ' H' s'/\RelV v u/\D.rt v H'
def PE (X:Cx)(e:Expr)(t:TE):Prop :=
 ∀ (ZY:Ic) (s:TF) (σ:St) (H:Hp) (Q:VK),Inv X ZY σ H s->t σ H Q->Ug (Up X.prog X.w) X.A (W8 e X.env) (EP X ZY σ Q) X.xe s
def PT (X:Cx)(e:Expr)(t:TT):Prop :=
 ∀ (ZY:Ic) (s:TF) (σ:St) (H:Hp) (Q:Bool->Hp->Prop),Inv X ZY σ H s->t σ H Q->Ug (Up X.prog X.w) X.A (isTrue e X.env (W8 e X.env)) (TP X ZY σ Q) X.xe s
def PW (X:Cx)(e:Expr)(t:TT):Prop :=
 ∀ (whole:Sem Value) (ZY:Ic) (s:TF) (σ:St) (H:Hp) (Q:Bool->Hp->Prop),Inv X ZY σ H s->t σ H Q->Ug (Up X.prog X.w) X.A (isTrue e X.env whole) (TP X ZY σ Q) X.xe s
theorem PW.pt {X:Cx}{e:Expr}{t:TT}(h:PW X e t):PT X e t:=h _
def PA (X:Cx)(es:IJ)(t:TA):Prop :=
 ∀ (pos:YM) (ZY:Ic) (s:TF) (σ:St) (H:Hp) (Q:List V->Hp->Prop),Inv X ZY σ H s->t σ H Q->Ug (Up X.prog X.w) X.A (spliced (Zj pos (U9 es X.env))) (AP X ZY σ Q) X.xe s
def PS (X:Cx)(st:Stmt)(t:TS):Prop :=
 ∀ (ZY:Ic) (s:TF) (σ:St) (H:Hp) (D:Ends),Inv X ZY σ H s->t D σ H->Ug (Up X.prog X.w) X.A (exec st X.env) (SP X ZY D) X.xe s
def PSs (X:Cx)(st:IL)(t:TS):Prop :=
 ∀ (ZY:Ic) (s:TF) (σ:St) (H:Hp) (D:Ends),Inv X ZY σ H s->t D σ H->Ug (Up X.prog X.w) X.A (execs st X.env) (SP X ZY D) X.xe s
theorem thn {α:Type}{t:Sem α}{Q Q':α->TF->Prop}{M:Model}{A:Vf}{E:Ix}{s:TF}(h:Ug M A t Q E s)(hQ:∀ a s,Q a s->Q' a s):Ug M A t Q' E s:=VB h hQ fun _ _ x=>x
section
variable {X:Cx}
inductive ExB (x:V)(P:Bool->Prop):Prop where
 | mk (c:Bool) (z0:x = .bl c) (z1:P c):ExB x P
inductive lF (i:Nat)(σ:St)(H:Hp)(Q:VK):Prop where
 | mk (v:V) (_:σ[i]? = some (some v)) (_:Q v H)
def tC (v:V):TE:=fun _ H Q=>Q v H
theorem PQ {i:Nat} {x:VM} {pos:YM} (hN:X.N[i]? = some x) (hv:Vis X.env.scope x) (hd:(x == ("__debug__" : VM))=false:=by decide) (hcd:(x == ("__classdict__" : VM))=false:=by decide):PE X (.Name x pos) (lF i):=by
 intro ZY s σ H Q I h
 obtain⟨v,e,h⟩:=h
 obtain⟨m,hn,hl⟩:=I.loc
 obtain⟨u,r,l⟩:=hl i x v hN e hv
 have fin:EP X ZY σ Q u s:=⟨v,H,I,r,h⟩
 rcases l with⟨hk,hm⟩ | ⟨hk,c,hc,hcell⟩
 ·exact wpAny_Name (wpAny_loadName_local I.ok.kind hk hn hm fin) hd
 ·rcases hk with hk | hk
  ·exact wpAny_Name (wpAny_loadName_cell I.ok.kind hk hc hcell fin) hd
  ·exact wpAny_Name (wpAny_loadName_free I.ok.kind hk hc hcell fin hcd) hd
theorem aj {i j pos}:PE X (.Constant (.int i) j pos) (tC (.int i)):=fun _ _ _ H _ I h=>wpAny_Constant_int ⟨.int i,H,I.tok _,⟨_,U⟩,h⟩
theorem mF {b j pos}:PE X (.Constant (.bool b) j pos) (tC (.bl b)):=fun _ _ _ H _ I h=>Constant_bool ⟨.bl b,H,I,U,h⟩
theorem O6 {j pos}:PE X (.Constant .none j pos) (tC .non):=fun _ _ _ H _ I h=>Constant_none ⟨.non,H,I,U,h⟩
theorem bK {x j pos}:PE X (.Constant (.str x) j pos) (tC (.str x)):=fun _ _ _ H _ I h=>Calls.Constant_str ⟨.str x,H,I.tok _,⟨_,U⟩,h⟩
def Gl (X:Cx)(x:VM):Prop:=X.env.kindOf x=some .globalImplicit
theorem Ni {E:Ix}{ZY:Ic}{s:TF}{σ:St}{H:Hp}{x:VM}{u:Value}{pos:YM}{Q:Ix}(I:Inv X ZY σ H s)(hg:Gl X x)(hm:X.mg x=some u)(h:Q u s)
  (hd:(x == ("__debug__" : VM))=false:=by decide):Ug (Up X.prog X.w) X.A (W8 (.Name x pos) X.env) Q E s :=
 Calls.Name_function_global I.ok.kind hg (Calls.loadGlobal_global (by rw[I.ok.glob];exact I.mod.glob.keeps I.bk) hm h) hd
theorem jx {E:Ix}{ZY:Ic}{s:TF}{σ:St}{H:Hp}{x:VM}{u:Value}{pos:YM}{Q:Ix}(I:Inv X ZY σ H s)(hg:Gl X x)(hm:X.mg x=none)(hv:VF x=some u)(h:Q u s)
  (hn:x≠"__name__":=by decide) (hd:(x == ("__debug__" : VM))=false:=by decide):Ug (Up X.prog X.w) X.A (W8 (.Name x pos) X.env) Q E s:=by
 obtain⟨mb,h1,h2⟩:=I.mod.blt
 exact Calls.Name_function_global I.ok.kind hg (Calls.loadGlobal_builtin (by rw[I.ok.glob];exact I.mod.glob.keeps I.bk) hm (by rw[I.ok.blt];exact h1.keeps I.bk) ((h2 x hn).trans hv) h) hd
theorem N8 {x:VM} {v:V} {u:Value} {pos:YM} (hg:Gl X x) (hm:X.mg x=none) (hv:VF x=some u) (r:RelV v u) (hn:x≠"__name__":=by decide) (hd:(x == ("__debug__" : VM))=false:=by decide):PE X (.Name x pos) (tC v) :=
 fun _ _ _ H _ I h=>jx I hg hm hv ⟨v,H,I,r,h⟩ hn hd
variable {a b:Expr}{ta tb:TE}{pos:YM}
def PC (X:Cx)(op:CmpOp)(a b:Expr)(t:TE):Prop :=
 ∀ (ZY:Ic) (s:TF) (σ:St) (H:Hp) (Q:VK),Inv X ZY σ H s->t σ H Q →
  Ug (Up X.prog X.w) X.A (W8 a X.env) (fun v s₁=>Ug (Up X.prog X.w) X.A (W8 b X.env) (fun u s₂=>Ug (Up X.prog X.w) X.A (Wl op v u) (EP X ZY σ Q) X.xe s₂) X.xe s₁) X.xe s
theorem Bs (b:Expr){op:CmpOp}(h:op≠.In)(h2:op≠.NotIn):Xf op b=false:=by
 have e1:(op == CmpOp.In)=false:=by cases op <;> first | rfl | exact absurd rfl h
 have e2:(op == CmpOp.NotIn)=false:=by cases op <;> first | rfl | exact absurd rfl h2
 cases b <;> simp [Xf,e1,e2]
def Tc (ta:TE):TE:=fun σ H Q=>ta σ H fun x H1=>Q (.bl (decide (x = .non))) H1
theorem RelV.Iu {x:V}{v:Value}(r:RelV x v):(v == U0)=decide (x = .non):=by
 cases x with
 | non=>cases r;rfl
 | bl _=>cases r;rfl
 | int _=>obtain⟨t,rfl⟩:=r;rfl
 | str _=>obtain⟨t,rfl⟩:=r;rfl
 | byt _=>obtain⟨t,rfl⟩:=r;rfl
 | flt _=>obtain⟨t,rfl⟩:=r;rfl
 | ref _=>cases r;rfl
 | ty _=>cases r;rfl
theorem Ko {j pos'}(ha:PE X a ta):PC X .Is a (.Constant .none j pos') (Tc ta):=by
 intro ZY s σ H Q I h
 refine thn (ha ZY s σ H _ I h) fun v s1 ⟨x,H1,I1,r1,q1⟩=>?_
 exact Constant_none (is_none_gen ⟨.bl _,H1,I1,by rw[r1.Iu];rfl,q1⟩)
def tB (t:TE):TT:=fun σ H Q=>t σ H fun x H1=>ExB x fun c=>Q c H1
theorem Ph {op:CmpOp}{t:TE}(h:PC X op a b t)(h1:Xf op b=false:=by first | exact Bs _ (by decide) (by decide) | rfl):PE X (.Compare a [op] [b] pos) t:=fun ZY s σ H Q I hw=>wpAny_Compare1 (h ZY s σ H Q I hw) h1
theorem Gi {op:CmpOp}{t:TE}(h:PC X op a b t)(h1:Xf op b=false:=by first | exact Bs _ (by decide) (by decide) | rfl):PT X (.Compare a [op] [b] pos) (tB t):=by
 intro ZY s σ H Q I hw
 refine wpAny_isTrue_Compare1 (thn (h ZY s σ H _ I hw) fun v s1 h1=>thn h1 fun u s2 h2=>thn h2 fun c s3 ⟨x,H1,I1,r1,q1⟩=>?_) h1
 obtain⟨d,rfl,q⟩:=q1
 cases r1
 exact WD ⟨H1,I1,q⟩
theorem iQ {e:Expr}{t:TE}(h:PE X e t)(he:∀ whole,isTrue e X.env whole=(do let v ← whole;abk e.pos;abm [v] (truthy v)):=by intro _;rfl):PT X e (tB t):=by
 intro ZY s σ H Q I hw
 refine isTrue_plain (thn (h ZY s σ H _ I hw) fun v s1 ⟨x,H1,I1,r1,q1⟩=>?_) (he _)
 obtain⟨d,rfl,q⟩:=q1
 cases r1
 exact WD ⟨H1,I1,q⟩
variable {tA tB':TT}{rest:IJ}
def RV (t u:TT):TT:=fun σ H Q=>t σ H fun c H1=>if c=true then u σ H1 Q else Q false H1
def tOr (t u:TT):TT:=fun σ H Q=>t σ H fun c H1=>if c=true then Q true H1 else u σ H1 Q
def R8 (t:TT):TT:=fun σ H Q=>t σ H fun c H1=>Q (!c) H1
theorem pJ (ha:PT X a tA):PW X (.BoolOp .And [a] pos) tA:=by
 intro wh ZY s σ H Q I h
 refine isTrue_and (thn (ha ZY s σ H Q I h) fun c s1 e=>?_)
 cases c with
 | true=>exact isTrue_and_nil e
 | false=>exact e
theorem DY (ha:PT X a tA):PW X (.BoolOp .Or [a] pos) tA:=by
 intro wh ZY s σ H Q I h
 refine isTrue_or (thn (ha ZY s σ H Q I h) fun c s1 e=>?_)
 cases c with
 | false=>exact isTrue_or_nil e
 | true=>exact e
theorem wu (ha:PT X a tA)(hb:PW X (.BoolOp .And (b::rest) pos) tB'):PW X (.BoolOp .And (a::b::rest) pos) (RV tA tB'):=by
 intro wh ZY s σ H Q I h
 refine isTrue_and (thn (ha ZY s σ H _ I h) fun c s1 ⟨H1,I1,q1⟩=>?_)
 cases c with
 | true=>exact hb wh ZY s1 σ H1 Q I1 q1
 | false=>exact⟨H1,I1,q1⟩
theorem Mt (ha:PT X a tA)(hb:PW X (.BoolOp .Or (b::rest) pos) tB'):PW X (.BoolOp .Or (a::b::rest) pos) (tOr tA tB'):=by
 intro wh ZY s σ H Q I h
 refine isTrue_or (thn (ha ZY s σ H _ I h) fun c s1 ⟨H1,I1,q1⟩=>?_)
 cases c with
 | true=>exact⟨H1,I1,q1⟩
 | false=>exact hb wh ZY s1 σ H1 Q I1 q1
theorem rY (ha:PT X a tA):PT X (.UnaryOp .Not a pos) (R8 tA):=by
 intro ZY s σ H Q I h
 exact isTrue_not (ha ZY s σ H (fun c H1=>Q (!c) H1) I h)
def RB (ta tb:TE):TE:=fun σ H Q=>ta σ H fun x H1=>ExB x fun c=>if c=true then tb σ H1 Q else Q (.bl false) H1
def Te (ta tb:TE):TE:=fun σ H Q=>ta σ H fun x H1=>ExB x fun c=>if c=true then Q (.bl true) H1 else tb σ H1 Q
theorem xr {op}{t:TE}(h:PE X a t):PE X (.BoolOp op [a] pos) t:=fun ZY s σ H Q I hw=>BoolOp_one (h ZY s σ H Q I hw)
theorem wI (ha:PE X a ta)(hb:PE X (.BoolOp .And (b::rest) pos) tb):PE X (.BoolOp .And (a::b::rest) pos) (RB ta tb):=by
 intro ZY s σ H Q I h
 refine BoolOp_and (thn (ha ZY s σ H _ I h) fun v s1 ⟨x,H1,I1,r1,q1⟩=>?_)
 obtain⟨c,rfl,q1⟩:=q1
 cases r1
 refine WD ?_
 cases c with
 | true=>exact hb ZY s1 σ H1 Q I1 q1
 | false=>exact⟨.bl false,H1,I1,U,q1⟩
theorem Ry (ha:PE X a ta)(hb:PE X (.BoolOp .Or (b::rest) pos) tb):PE X (.BoolOp .Or (a::b::rest) pos) (Te ta tb):=by
 intro ZY s σ H Q I h
 refine BoolOp_or (thn (ha ZY s σ H _ I h) fun v s1 ⟨x,H1,I1,r1,q1⟩=>?_)
 obtain⟨c,rfl,q1⟩:=q1
 cases r1
 refine WD ?_
 cases c with
 | false=>exact hb ZY s1 σ H1 Q I1 q1
 | true=>exact⟨.bl true,H1,I1,U,q1⟩
def tIf (t:TT)(ta tb:TE):TE:=fun σ H Q=>t σ H fun c H1=>if c=true then ta σ H1 Q else tb σ H1 Q
theorem Be {c:Expr}(hc:PT X c tA)(ha:PE X a ta)(hb:PE X b tb):PE X (.IfExp c a b pos) (tIf tA ta tb):=by
 intro ZY s σ H Q I h
 refine wpAny_IfExp (thn (hc ZY s σ H _ I h) fun d s1 ⟨H1,I1,q1⟩=>?_)
 cases d with
 | true=>exact ha ZY s1 σ H1 Q I1 q1
 | false=>exact hb ZY s1 σ H1 Q I1 q1
end
def SqL (K:Ut)(H:Hp)(a:Addr)(xs:List V):Prop :=
 Rd H a (.lst xs) ∨
  ∃ (o:Xh) (its:Array Value) (n:Nat),K.lookup a=some o/\o.cls = .type "list"/\o.dict=none/\o.data = .seq its n/\its.size<=sizeLine/\Vals xs its.toList
def SqT (K:Ut)(H:Hp)(a:Addr)(xs:List V):Prop :=
 Rd H a (.tup xs) ∨
  ∃ (o:Xh) (its:Array Value) (n:Nat),K.lookup a=some o/\o.cls = .type "tuple"/\o.data = .seq its n/\its.size<=sizeLine/\Vals xs its.toList
def Tn:Value->Option V
 | .none=>some .non
 | .bool b=>some (.bl b)
 | .int i _=>some (.int i)
 | .str x _=>some (.str x)
 | .bytes b _=>some (.byt b)
 | .float b _=>some (.flt b)
 | .ref a=>some (.ref a)
 | .type n=>some (.ty n)
 | _=>none
theorem RelV.abs {x:V}{u:Value}(r:RelV x u):Tn u=some x:=by
 cases x with
 | non=>cases r;rfl
 | bl _=>cases r;rfl
 | int _=>obtain⟨t,rfl⟩:=r;rfl
 | str _=>obtain⟨t,rfl⟩:=r;rfl
 | byt _=>obtain⟨t,rfl⟩:=r;rfl
 | flt _=>obtain⟨t,rfl⟩:=r;rfl
 | ref _=>cases r;rfl
 | ty _=>cases r;rfl
theorem RelV.inj {x y:V}{u:Value}(r:RelV x u)(q:RelV y u):x=y:=U4 (r.abs.symm.trans q.abs)
theorem Vals.inj:∀ {xs ys:List V} {us:IF},Vals xs us->Vals ys us->xs=ys
 | _,_,_,.nil,.nil=>rfl
 | _,_,_,.cons r t,.cons r' t'=>by rw[r.inj r',Vals.inj t t']
section
variable {X:Cx}{ZY:Ic}{σ:St}{H:Hp}{s:TF}{a:Addr}{xs ys:List V}
theorem SqL.of {K:Ut}(h:H a=some (.lst xs)):SqL K H a xs:=.inl (.inl h)
theorem SqT.of {K:Ut}(h:H a=some (.tup xs)):SqT K H a xs:=.inl (.inl h)
theorem Inv.list (I:Inv X ZY σ H s)(h:SqL X.K H a xs):∃ its:IF,Vals xs its/\PlainL s.heap a its.toArray/\xs.length<=sizeLine:=by
 rcases h with h | ⟨o,its,n,hk,hc,hd,hs,hz,r⟩
 ·obtain⟨z,its,n,r,e⟩:=h.ok I.hok
  exact⟨its,r,⟨_,n,e,U,U,U⟩,z⟩
 ·refine⟨its.toList,r,⟨o,n,I.kIn a o hk,hc,hd,by simpa using hs⟩,?_⟩
  have e:=r.length
  simp only[Uv] at e
  lia
theorem Inv.tuple (I:Inv X ZY σ H s)(h:SqT X.K H a xs):∃ its:IF,Vals xs its/\IsTup s.heap a its.toArray/\xs.length<=sizeLine:=by
 rcases h with h | ⟨o,its,n,hk,hc,hs,hz,r⟩
 ·obtain⟨z,its,r,p⟩:=h.ok I.hok
  exact⟨its,r,p,z⟩
 ·refine⟨its.toList,r,⟨o,I.kIn a o hk,hc,n,by simpa using hs⟩,?_⟩
  have e:=r.length
  simp only[Uv] at e
  lia
theorem Inv.pC (I:Inv X ZY σ H s)(h:SqL X.K H a xs)(h':SqL X.K H a ys):xs=ys:=by
 obtain⟨its,r,⟨o,n,e,_,_,d⟩,_⟩:=I.list h
 obtain⟨its',r',⟨o',n',e',_,_,d'⟩,_⟩:=I.list h'
 rw[e] at e';cases e'
 rw[d] at d'
 injection d' with d1 _
 have:its=its':=by simpa using congrArg Array.toList d1
 subst this
 exact r.inj r'
theorem Inv.iC (I:Inv X ZY σ H s)(h:SqT X.K H a xs)(h':SqT X.K H a ys):xs=ys:=by
 obtain⟨its,r,⟨o,e,_,n,d⟩,_⟩:=I.tuple h
 obtain⟨its',r',⟨o',e',_,n',d'⟩,_⟩:=I.tuple h'
 rw[e] at e';cases e'
 rw[d] at d'
 injection d' with d1 _
 have:its=its':=by simpa using congrArg Array.toList d1
 subst this
 exact r.inj r'
end
abbrev Cx.wish (X:Cx)(E:Ix):Cx:={ X with xe:=E }
abbrev Cx.nox (X:Cx):Cx:=X.wish fun _ _=>False
theorem Cx.Ok.wish {X:Cx}(ok:X.Ok)(E:Ix):(X.wish E).Ok :=
 ⟨ok.mod,ok.kind,ok.glob,ok.blt,ok.above,ok.inj,ok.has,ok.cab,ok.hd,ok.frames,ok.stk,ok.exf,ok.bs,ok.bsz,ok.noex,ok.exfs,ok.Gf,ok.frf⟩
theorem Cx.Ok.nY {X:Cx}{E:Ix}(ok:(X.wish E).Ok):X.Ok :=
 ⟨ok.mod,ok.kind,ok.glob,ok.blt,ok.above,ok.inj,ok.has,ok.cab,ok.hd,ok.frames,ok.stk,ok.exf,ok.bs,ok.bsz,ok.noex,ok.exfs,ok.Gf,ok.frf⟩
section
variable {X:Cx}{ZY:Ic}{σ:St}{H:Hp}{s:TF}{E:Ix}
theorem Inv.wish (I:Inv X ZY σ H s)(E:Ix):Inv (X.wish E) ZY σ H s:=⟨I.ok.wish E,I.os,I.bare,I.base,I.loc,I.cell,I.free,I.freeC,I.pin,I.hok,I.len⟩
theorem Inv.nY (I:Inv (X.wish E) ZY σ H s):Inv X ZY σ H s:=⟨I.ok.nY,I.os,I.bare,I.base,I.loc,I.cell,I.free,I.freeC,I.pin,I.hok,I.len⟩
theorem SP.nY {D:Ends}{f:Flow}{s':TF}(h:SP (X.wish E) ZY D f s'):SP X ZY D f s':=by
 cases f with
 | next=>obtain⟨σ',H',I,q⟩:=h;exact⟨σ',H',I.nY,q⟩
 | brk=>obtain⟨σ',H',I,q⟩:=h;exact⟨σ',H',I.nY,q⟩
 | cont=>obtain⟨σ',H',I,q⟩:=h;exact⟨σ',H',I.nY,q⟩
 | ret u=>obtain⟨v,σ',H',I,r,q⟩:=h;exact⟨v,σ',H',I.nY,r,q⟩
theorem PSs.nox {st:IL}{t:TS}(h:PSs X.nox st t):PSs X st t:=fun ZY s σ H D I hw =>
 VB (h ZY s σ H D (I.wish _) hw) (fun _ _ q=>q.nY) fun _ _ z=>Yv z
end
section
variable {X:Cx}{st:Stmt}{rest:IL}{t u:TS}{e:Expr}{te:TE}{pos:YM}
def Pn:TS:=fun D σ H=>D.nx σ H
def G6 (t u:TS):TS:=fun D σ H=>t { D with nx:=u D } σ H
theorem cQ:PSs X [] Pn:=fun _ _ σ H _ I h=>aaD ⟨σ,H,I,h⟩
theorem aq (h1:PS X st t)(h2:PSs X rest u):PSs X (st::rest) (G6 t u):=by
 intro ZY s σ H D I h
 refine wpAny_execs_cons (thn (h1 ZY s σ H { D with nx:=u D } I h) fun f s1 q=>?_)
 cases f with
 | next =>
  obtain⟨σ',H',I',q⟩:=q
  exact h2 ZY s1 σ' H' D I' q
 | ret v=>exact q
 | brk=>exact q
 | cont=>exact q
theorem aO (h1:PS X st t):PSs X [st] t:=by
 intro ZY s σ H D I h
 refine wpAny_execs_cons (thn (h1 ZY s σ H D I h) fun f s1 q=>?_)
 cases f with
 | next=>exact aaD q
 | ret v=>exact q
 | brk=>exact q
 | cont=>exact q
theorem Inv.quiet {ZY:Ic}{σ:St}{H:Hp}{s:TF}(I:Inv X ZY σ H s):interactive X.env=false:=by simp [interactive,I.ok.kind]
def Q9 (te:TE):TS:=fun D σ H=>te σ H fun _ H1=>D.nx σ H1
theorem cu (he:PE X e te)(hs:aap e none pos.line X.env=pure false:=by rfl):PS X (.Expr e pos) (Q9 te):=by
 intro ZY s σ H D I h
 exact wpAny_Expr_any (thn (he ZY s σ H _ I h) fun v s1 ⟨x,H1,I1,r1,q1⟩=>⟨σ,H1,I1,q1⟩) I.quiet hs
def Rj (te:TE):TS:=fun D σ H=>te σ H D.rt
theorem La (he:PE X e te):PS X (.Return (some e) pos) (Rj te):=by
 intro ZY s σ H D I h
 exact wpAny_Return_some (thn (he ZY s σ H _ I h) fun v s1 ⟨x,H1,I1,r1,q1⟩=>⟨x,σ,H1,I1,r1,q1⟩)
def FT (c:TT)(t u:TS):TS:=fun D σ H=>c σ H fun b H1=>if b=true then t D σ H1 else u D σ H1
theorem iz {c:Expr}{a b:IL}{tc:TT}(hc:PT X c tc)(ha:PSs X a t)(hb:PSs X b u):PS X (.If c a b pos) (FT tc t u):=by
 intro ZY s σ H D I h
 refine wpAny_If (thn (hc ZY s σ H _ I h) fun d s1 ⟨H1,I1,q1⟩=>?_)
 cases d with
 | true=>exact ha ZY s1 σ H1 D I1 q1
 | false=>exact hb ZY s1 σ H1 D I1 q1
end
abbrev TG:=V->St->Hp->(St->Hp->Prop)->Prop
abbrev TGs:=List V->St->Hp->(St->Hp->Prop)->Prop
def PG (X:Cx)(target:Expr)(t:TG):Prop :=
 ∀ (ZY:Ic) (s:TF) (σ:St) (H:Hp) (v:V) (u:Value) (Q:St->Hp->Prop),Inv X ZY σ H s->RelV v u->t v σ H Q →
  Ug (Up X.prog X.w) X.A (ZZ target X.env u) (fun _ s'=>∃ σ' H',Inv X ZY σ' H' s'/\Q σ' H') X.xe s
def PGs (X:Cx)(ts:IJ)(t:TGs):Prop :=
 ∀ (ZY:Ic) (s:TF) (σ:St) (H:Hp) (vs:List V) (us:IF) (Q:St->Hp->Prop),Inv X ZY σ H s->Vals vs us->t vs σ H Q →
  Ug (Up X.prog X.w) X.A (assignInOrder ((Zk ts X.env).map (·.2)) us) (fun _ s'=>∃ σ' H',Inv X ZY σ' H' s'/\Q σ' H') X.xe s
abbrev Rv:=V->V->V->Hp->(Hp->Prop)->Prop
def R4 (X:Cx)(t:Rv):Prop :=
 ∀ (ZY:Ic) (s:TF) (σ:St) (H:Hp) (o i v:V) (ov iv u:Value) (Q:Hp->Prop),Inv X ZY σ H s->RelV o ov->RelV i iv->RelV v u->t o i v H Q →
  Ug (Up X.prog X.w) X.A (setItem ov iv u) (fun _ s'=>∃ H',Inv X ZY σ H' s'/\Q H') X.xe s
section
variable {X:Cx}{pos:YM}
def vg (i:Nat):TG:=fun v σ H Q=>Q (σ.set i (some v)) H
theorem qK {i:Nat}{x:VM}(hN:X.N.Nodup)(hi:X.N[i]? = some x)(hx:Loc X.env.scope x)(hf:X.fn x=true∨X.env.scope.names.lookup x=some .local:=by first | exact .inl rfl | exact .inr rfl | assumption):PG X (.Name x pos) (vg i):=by
 intro ZY s σ H v u Q I r h
 exact abi (Bw I hN hi hx r (fun s' I'=>⟨_,H,I',h⟩) hf)
def Sg:TGs:=fun vs σ H Q=>vs=[]/\Q σ H
inductive Rb (t:TG)(u:TGs)(vs:List V)(σ:St)(H:Hp)(Q:St->Hp->Prop):Prop where
 | mk (v:V) (r:List V) (_:vs=v::r) (_:t v σ H fun σ' H'=>u r σ' H' Q)
theorem dw:PGs X [] Sg:=by
 intro ZY s σ H vs us Q I r h
 obtain⟨e,h⟩:=h
 subst e
 cases r
 exact assignInOrder_nil ⟨σ,H,I,h⟩
theorem aQ {e:Expr}{es:IJ}{t:TG}{u:TGs}(h1:PG X e t)(h2:PGs X es u)
  (hs:(Zk (e::es) X.env).map (·.2)=ZZ e X.env::(Zk es X.env).map (·.2):=by rfl):PGs X (e::es) (Rb t u):=by
 intro ZY s σ H vs us Q I r h
 obtain⟨v,vr,e1,h⟩:=h
 subst e1
 cases r with
 | cons r rr =>
  rw[hs]
  refine assignInOrder_cons (thn (h1 ZY s σ H _ _ _ I r h) fun _ s1 ⟨σ1,H1,I1,q1⟩=>?_)
  exact h2 ZY s1 σ1 H1 _ _ Q I1 rr q1
inductive RX (K:Ut)(n:Nat)(t:TGs)(v:V)(σ:St)(H:Hp)(Q:St->Hp->Prop):Prop where
 | mk (a:Addr) (xs:List V) (_:v = .ref a) (_:SqT K H a xs) (_:xs.length=n) (_:t xs σ H Q)
theorem QR {es:IJ}{k:Nat}{t:TGs}{n:Nat}(hc:X.calm=true)(h:PGs X es t)
  (hn:(Zk es X.env).length=n:=by rfl) (hst:(Zk es X.env).findIdx? (·.1)=none:=by rfl):PG X (.Tuple es k pos) (RX X.K n t):=by
 intro ZY s σ H v u Q I r hw
 obtain⟨a,xs,e1,hq,hl,hw⟩:=hw
 subst e1
 cases r
 obtain⟨its,rv,ht,hz⟩:=I.tuple hq
 refine assign_Tuple_tuple (I.ok.hd hc) ht (by simp [hn,← hl,rv.length]) hst fun h' hx=>?_
 have I1:Inv X ZY σ H { s with heap:=h' }:=I.kept (t':=s.toks) fun b o e=>hx b o (Uq (Uk e)) e
 exact h ZY _ σ H xs _ Q I1 (by simpa using rv) hw
def S9 (to ti:TE)(t:Rv):TG:=fun v σ H Q=>to σ H fun o H1=>ti σ H1 fun i H2=>t o i v H2 fun H3=>Q σ H3
theorem P0 {o i:Expr}{to ti:TE}{t:Rv}(ho:PE X o to)(hi:PE X i ti)(hs:R4 X t)
  (ha:∀ v,ZZ (.Subscript o i pos) X.env v=(do
   let ov ← abm [v] (W8 o X.env)
   let iv ← abm [v,ov] (W8 i X.env)
   abk pos
   abm [v,ov,iv] (setItem ov iv v)
   release [v,ov,iv] []):=by intro _;rfl):PG X (.Subscript o i pos) (S9 to ti t):=by
 intro ZY s σ H v u Q I r h
 rw[ha]
 refine Tv (V5 (thn (ho ZY s σ H _ I h) fun ov s1 ⟨x,H1,I1,r1,q1⟩=>?_))
 refine Tv (V5 (thn (hi ZY s1 σ H1 _ I1 q1) fun iv s2 ⟨y,H2,I2,r2,q2⟩=>?_))
 refine Tv (XC (Tv (V5 (thn (hs ZY s2 σ H2 x y v ov iv u _ I2 r1 r2 r q2) fun _ s3 ⟨H3,I3,q3⟩=>?_))))
 exact wpAny_release ⟨σ,H3,I3,q3⟩
def Q0 (te:TE)(g:TG):TS:=fun D σ H=>te σ H fun x H1=>g x σ H1 D.nx
theorem Fq {tg e:Expr}{te:TE}{g:TG}(he:PE X e te)(hg:PG X tg g)(hs:swapsWithSole [tg] e pos.line X.env=pure false:=by rfl)(hw:swappedStores [tg] e X.env=pure none:=by rfl)
  (h1:(Zk [tg] X.env).map (·.2)=[ZZ tg X.env]:=by rfl):PS X (.Assign [tg] e pos) (Q0 te g):=by
 intro ZY s σ H D I h
 refine wpAny_Assign_stores (thn (he ZY s σ H _ I h) fun v s1 ⟨x,H1,I1,r1,q1⟩=>?_) hs hw
 rw[h1]
 exact thn (hg ZY s1 σ H1 x v _ I1 r1 q1) fun _ s2 q=>q
theorem KH {i:Nat}{x:VM}{e:Expr}{te:TE}{pos':YM}(hN:X.N.Nodup)(hi:X.N[i]? = some x)(hx:Loc X.env.scope x)(he:PE X e te)(hs:aap e (some (.Name x pos')) pos.line X.env=pure false:=by rfl)(hf:X.fn x=true∨X.env.scope.names.lookup x=some .local:=by first | exact .inl rfl | exact .inr rfl | assumption) :
  PS X (.Assign [.Name x pos'] e pos) (Q0 te (vg i)):=by
 intro ZY s σ H D I h
 refine wpAny_Assign_Name (thn (he ZY s σ H _ I h) fun v s1 ⟨y,H1,I1,r1,q1⟩=>?_) hs
 exact Bw I1 hN hi hx r1 (fun s2 I2=>⟨_,H1,I2,q1⟩) hf
end
section
variable {X:Cx}{pos:YM}
def Lz (c:TT)(tb:TS):TS:=fun D σ H=>∃ W:Nat->St->Hp->Prop,(∃ m,W m σ H)/\∀ m σ H,W m σ H →
 c σ H fun b H1=>if b=true then ∃ N:St->Hp->Prop,(∀ σ' H',N σ' H'->∃ m',m' < m/\W m' σ' H')/\tb { D with nx:=N,ct:=N,bk:=D.nx } σ H1 else D.nx σ H1
theorem o8 {c:Expr}{body:IL}{tc:TT}{tb:TS}(hp:PassesOwn (Up X.prog X.w) X.A X.env X.xe)(hc:PT X c tc)(hb:PSs X body tb):PS X (.While c body [] pos) (Lz tc tb):=by
 intro ZY s σ H D I h
 obtain⟨W,⟨m0,w0⟩,turn⟩:=h
 refine wpAny_While (codeAny_whileLoop (fun n s'=>∃ σ' H',Inv X ZY σ' H' s'/\W n σ' H') ?_ m0 ⟨σ,H,I,w0⟩)
 rintro n s1 ⟨σ1,H1,I1,w1⟩
 refine Yg hp (thn (hc ZY s1 σ1 H1 _ I1 (turn n σ1 H1 w1)) fun b s2 ⟨H2,I2,q2⟩=>?_)
 cases b with
 | true =>
  obtain⟨N,hN,q2⟩:=q2
  rw[if_pos U]
  refine Yg hp (thn (hb ZY s2 σ1 H2 _ I2 q2) fun f s3 q3=>?_)
  cases f with
  | next =>
   obtain⟨σ3,H3,I3,n3⟩:=q3
   obtain⟨m',hm,w3⟩:=hN σ3 H3 n3
   exact⟨m',hm,σ3,H3,I3,w3⟩
  | cont =>
   obtain⟨σ3,H3,I3,n3⟩:=q3
   obtain⟨m',hm,w3⟩:=hN σ3 H3 n3
   exact⟨m',hm,σ3,H3,I3,w3⟩
  | brk=>exact q3
  | ret v=>exact q3
 | false =>
  rw[if_neg Uc]
  exact aaD ⟨σ1,H2,I2,q2⟩
end
structure It where
 go:Nat->Hp->Prop
 yld:Nat->Hp->V->Hp->Prop
 stop:Nat->Hp->Prop
def tM (X:Cx)(ZY:Ic)(H:Hp)(b:Addr):Prop :=
 H b=none/\b≠X.env.locals/\b ∉ X.fs/\(b∈X.ex∨X.s₀.heap.objs.size<=b)/\(∀ x c,X.env.cells.lookup x=some c->c≠b)/\∀ p∈X.pn++ZY,p.1≠b
theorem Inv.Im {X:Cx}{ZY:Ic}{σ:St}{H H':Hp}{s:TF}{b:Addr}(I:Inv X ZY σ H s)(hb:s.heap.objs.size<=b)(hn:H' b=none):tM X ZY H' b:=by
 refine⟨hn,Wg (Us I.lt hb),I.Sy hb,.inr (Vd I.sz hb),fun x c e z=>?_,fun p hp z=>?_⟩
 ·obtain⟨v,q⟩:=I.cell x c e
  exact absurd (Us q.lt (by rw[z];exact hb)) (Wq _)
 ·exact absurd (Us (Uk (I.pin p hp).1) (by rw[z];exact hb)) (Wq _)
structure Turn (P:Uy)(w:Ve)(K:Ut)(tg:Expr)(J:It)(fp:II)(it:Addr)(tn:Nat->Vv->Prop):Prop where
 mem:it∈fp
 obj:∀ i h,tn i h->∀ b∈fp,∃ o,h.get? b=some o/\∀ v,o.data≠.cell v
 keep:∀ i h h',tn i h->(∀ b∈fp,∀ o,h.get? b=some o->h'.get? b=some o)->tn i h'
 item:∀ (X:Cx),X.prog=P->X.w=w->X.K=K->X.calm=true->∀ (i:Nat) (ZY:Ic) (s:TF) (σ:St) (H:Hp) (E:Ix),Inv X ZY σ H s->(∀ b∈fp,tM X ZY H b)->tn i s.heap->J.go i H →
  Ug (Up P w) X.A (W7 (.ref it)) (fun r s1=>∃ u,r=some u ∧
   Ug (Up P w) X.A (Xl tg (.ref it) u) (fun _ s2=>∃ x H',Inv X ZY σ H' s2/\RelV x u/\J.yld i H x H'/\tn (i+1) s2.heap/\∀ b∈fp,H' b=none) E s1) E s
 done:∀ (X:Cx),X.prog=P->X.w=w->X.K=K->X.calm=true->∀ (i:Nat) (ZY:Ic) (s:TF) (σ:St) (H:Hp) (E:Ix),Inv X ZY σ H s->(∀ b∈fp,tM X ZY H b)->tn i s.heap->J.stop i H →
  Ug (Up P w) X.A (W7 (.ref it)) (fun r s1=>r=none/\Inv X ZY σ H s1) E s
 self:∀ (A:Vf) (i:Nat) (s:TF) (Q:Ix) (E:Ix),tn i s.heap->Q (.ref it) s->Ug (Up P w) A (aaT (.ref it)) Q E s
abbrev TI:=St->Hp->(It->Hp->Prop)->Prop
def PIE (X:Cx)(ZY:Ic)(σ:St)(tg:Expr)(R:It->Hp->Prop)(itv:Value)(s2:TF):Prop :=
 ∃ (it:Addr) (fp:II) (tn:Nat->Vv->Prop) (J:It) (H':Hp),itv = .ref it/\Inv X ZY σ H' s2/\Turn X.prog X.w X.K tg J fp it tn/\tn 0 s2.heap/\(∀ b∈fp,tM X ZY H' b)/\R J H'
def PI (X:Cx)(tg iter:Expr)(wi:TI):Prop :=
 ∀ (ZY:Ic) (s:TF) (σ:St) (H:Hp) (R:It->Hp->Prop),Inv X ZY σ H s->wi σ H R →
  Ug (Up X.prog X.w) X.A (W8 iter X.env) (fun v s1=>Ug (Up X.prog X.w) X.A (aaT v) (PIE X ZY σ tg R) X.xe s1) X.xe s
theorem Io {M : Model}{A : Vf}{E : Value → TF → Prop}{s : TF}{tg : Expr}{it : Addr}{u : Value}{o : Xh}{n : String}{vs : Array Value}{Q : Unit → TF → Prop}(ho : s.heap.get? it = some o)(hc : o.cls = .type n)(hd : o.data = .fields vs)
    (hn : ["enumerate", "zip", "dict_itemiterator", "dict_reverseitemiterator", "odict_iterator", "itertools.zip_longest", "itertools.pairwise"].contains n = false) (hQ : Q () s) : Ug M A (Xl tg (.ref it) u) Q E s := by
  unfold Xl
  cases tg <;> first
    | exact TV hQ
    | (cases u <;> first
        | exact TV hQ
        | (refine Tv (wpAny_load ho ?_)
           rw [hc, hd]
           show Ug M A (if (["enumerate", "zip", "dict_itemiterator", "dict_reverseitemiterator", "odict_iterator", "itertools.zip_longest", "itertools.pairwise"].contains n && vs[0]? == some (V2 _)) = true then _ else _) Q E s
           rw [if_neg (by intro h;rw [hn, Bool.false_and] at h;cases h)]
           exact TV hQ))
def Itl (K:Ut)(a:Addr):It :=
 ⟨fun i H=>∃ xs x,SqL K H a xs/\xs[i]? = some x,fun i H x H'=>H'=H/\∀ xs,SqL K H a xs->xs[i]? = some x,fun i H=>∃ xs,SqL K H a xs/\xs.length<=i⟩
def Itt (K:Ut)(a:Addr):It :=
 ⟨fun i H=>∃ xs x,SqT K H a xs/\xs[i]? = some x,fun i H x H'=>H'=H/\∀ xs,SqT K H a xs->xs[i]? = some x,fun i H=>∃ xs,SqT K H a xs/\xs.length<=i⟩
def Itr (lo:Int)(n:Nat):It:=⟨fun i _=>i < n,fun i H x H'=>H'=H/\x = .int (lo+i),fun i _=>n<=i⟩
theorem HQ {P:Uy}{w:Ve}{K:Ut}{tg:Expr}(a it:Addr):Turn P w K tg (Itl K a) [it] it (fun i h=>h.IsListIter it a i) where
 mem:=by simp
 obj:=fun i h st b hb=>by
  have e:b=it:=by simpa using hb
  subst e
  obtain⟨o,e,c,d⟩:=st
  exact⟨o,e,fun v z=>by rw[d] at z;cases z⟩
 keep:=fun i h h' st k=>st.at fun o e=>k it (by simp) o e
 item:=by
  intro X hP hw hK hc i ZY s σ H E I hf st hg
  subst hP hw hK
  obtain⟨xs,x,hq,hx⟩:=hg
  obtain⟨its,rv,p,hz⟩:=I.list hq
  obtain⟨u,hu,ru⟩:=rv.get hx
  obtain⟨f0,f1,f2,f3,f4,f5⟩:=hf it (by simp)
  refine wpAny_pyNext_list_item st p.isList (x:=u) (by simpa using hu) fun h' st' sb=>?_
  have I1:Inv X ZY σ H { s with heap:=h' }:=I.turned (t':=s.toks) (fun b o hb e=>(sb.2 b hb).trans e) f0 f1 f3 f4 f5
  obtain⟨o,e,c,d⟩:=id st'
  exact⟨u,U,Io (s:={ s with heap:=h' }) e c d (by decide) ⟨x,H,I1,ru,⟨U,fun ys hy=>by rw[I.pC hy hq];exact hx⟩,st',fun b hb=>(hf b hb).1⟩⟩
 done:=by
  intro X hP hw hK hc i ZY s σ H E I hf st hg
  subst hP hw hK
  obtain⟨xs,hq,hx⟩:=hg
  obtain⟨its,rv,p,hz⟩:=I.list hq
  obtain⟨f0,f1,f2,f3,f4,f5⟩:=hf it (by simp)
  have hl:=rv.length
  exact wpAny_pyNext_list_end (I.ok.hd hc) st p.isList (by simp;lia) fun h' eb=>⟨U,I.turned (t':=s.toks) (fun b o hb e=>eb b o hb e) f0 f1 f3 f4 f5⟩
 self:=fun _ _ _ _ _ st h=>wpAny_pyIter_listiter st h
theorem Ce {P:Uy}{w:Ve}{K:Ut}{tg:Expr}(a it:Addr):Turn P w K tg (Itt K a) [it] it (fun i h=>h.IsTupleIter it a i) where
 mem:=by simp
 obj:=fun i h st b hb=>by
  have e:b=it:=by simpa using hb
  subst e
  obtain⟨o,e,c,d⟩:=st
  exact⟨o,e,fun v z=>by rw[d] at z;cases z⟩
 keep:=fun i h h' st k=>st.at fun o e=>k it (by simp) o e
 item:=by
  intro X hP hw hK hc i ZY s σ H E I hf st hg
  subst hP hw hK
  obtain⟨xs,x,hq,hx⟩:=hg
  obtain⟨its,rv,p,hz⟩:=I.tuple hq
  obtain⟨u,hu,ru⟩:=rv.get hx
  obtain⟨f0,f1,f2,f3,f4,f5⟩:=hf it (by simp)
  refine wpAny_pyNext_tuple_item st (show s.heap.IsTuple a its.toArray from p) (x:=u) (by simpa using hu) fun h' st' sb=>?_
  have I1:Inv X ZY σ H { s with heap:=h' }:=I.turned (t':=s.toks) (fun b o hb e=>(sb.2 b hb).trans e) f0 f1 f3 f4 f5
  obtain⟨o,e,c,d⟩:=id st'
  exact⟨u,U,Io (s:={ s with heap:=h' }) e c d (by decide) ⟨x,H,I1,ru,⟨U,fun ys hy=>by rw[I.iC hy hq];exact hx⟩,st',fun b hb=>(hf b hb).1⟩⟩
 done:=by
  intro X hP hw hK hc i ZY s σ H E I hf st hg
  subst hP hw hK
  obtain⟨xs,hq,hx⟩:=hg
  obtain⟨its,rv,p,hz⟩:=I.tuple hq
  obtain⟨f0,f1,f2,f3,f4,f5⟩:=hf it (by simp)
  have hl:=rv.length
  exact wpAny_pyNext_tuple_end (I.ok.hd hc) st (show s.heap.IsTuple a its.toArray from p) (by simp;lia) fun h' eb=>⟨U,I.turned (t':=s.toks) (fun b o hb e=>eb b o hb e) f0 f1 f3 f4 f5⟩
 self:=fun _ _ _ _ _ st h=>wpAny_pyIter_tupleiter st h
theorem Cj {P:Uy}{w:Ve}{K:Ut}{tg:Expr}(it:Addr)(lo:Int)(n:Nat):Turn P w K tg (Itr lo n) [it] it (fun i h=>IsRangeIter h it (lo+(i:Nat) * 1) ((n:Int) - (i:Nat)) 1) where
 mem:=by simp
 obj:=fun i h st b hb=>by
  have e:b=it:=by simpa using hb
  subst e
  exact⟨_,st,fun v z=>by
   have z':Data.fields _=Data.cell v:=z
   cases z'⟩
 keep:=fun i h h' st k=>k it (by simp) _ st
 item:=by
  intro X hP hw hK hc i ZY s σ H E I hf st hg
  subst hP hw hK
  obtain⟨f0,f1,f2,f3,f4,f5⟩:=hf it (by simp)
  have W:=Walks.range (prog:=X.prog) (w:=X.w) (I.ok.hd hc) it lo 1 n
  refine W.item i s _ _ hg st fun v h' tk hv st' kk=>?_
  obtain⟨t,rfl⟩:=hv
  have I1:Inv X ZY σ H { s with heap:=h',toks:=tk }:=I.turned (fun b o hb e=>kk b o (by simpa using hb) e) f0 f1 f3 f4 f5
  refine⟨_,U,Io (s:={ s with heap:=h',toks:=tk }) (n:="range_iterator") st' U U (by decide) ⟨.int (lo+i),H,I1,⟨t,?_⟩,⟨U,U⟩,st',fun b hb=>(hf b hb).1⟩⟩
  rw[Int.mul_one]
 done:=by
  intro X hP hw hK hc i ZY s σ H E I hf st hg
  subst hP hw hK
  obtain⟨f0,f1,f2,f3,f4,f5⟩:=hf it (by simp)
  exact wpAny_pyNext_range_end (I.ok.hd hc) st (by have:n<=i:=hg;lia) fun h' eb=>⟨U,I.turned (t':=s.toks) (fun b o hb e=>eb b o hb e) f0 f1 f3 f4 f5⟩
 self:=fun _ _ _ _ _ st h=>wpAny_pyIter_rangeiter st h
section
variable {X:Cx}{tg:Expr}
def Qi (K:Ut)(tl:TE):TI:=fun σ H R=>tl σ H fun x H1=>∃ a,x = .ref a/\(∃ xs,SqL K H1 a xs)/\R (Itl K a) H1
def Sw (K:Ut)(tl:TE):TI:=fun σ H R=>tl σ H fun x H1=>∃ a,x = .ref a/\(∃ xs,SqT K H1 a xs)/\R (Itt K a) H1
theorem cB {l:Expr}{tl:TE}(hl:PE X l tl):PI X tg l (Qi X.K tl):=by
 intro ZY s σ H R I h
 refine thn (hl ZY s σ H _ I h) fun v s1 ⟨x,H1,I1,r1,q1⟩=>?_
 obtain⟨a,e,⟨xs,hq⟩,q⟩:=q1
 subst e
 cases r1
 obtain⟨its,rv,p,hz⟩:=I1.list hq
 refine Xr p.isList ?_
 refine⟨s1.heap.objs.size,[s1.heap.objs.size],_,_,H1,U,I1.kept (t':=s1.toks) fun b o e=>Tz _ e,HQ a _,⟨_,Ub _ U,U,U⟩,fun b hb=>?_,q⟩
 have e:b=s1.heap.objs.size:=by simpa using hb
 subst e
 exact I1.Im (Ua _) (I1.hok.fresh (Ua _))
theorem fX {l:Expr}{tl:TE}(hl:PE X l tl):PI X tg l (Sw X.K tl):=by
 intro ZY s σ H R I h
 refine thn (hl ZY s σ H _ I h) fun v s1 ⟨x,H1,I1,r1,q1⟩=>?_
 obtain⟨a,e,⟨xs,hq⟩,q⟩:=q1
 subst e
 cases r1
 obtain⟨its,rv,p,hz⟩:=I1.tuple hq
 refine X4 (show s1.heap.IsTuple a its.toArray from p) ?_
 refine⟨s1.heap.objs.size,[s1.heap.objs.size],_,_,H1,U,I1.kept (t':=s1.toks) fun b o e=>Tz _ e,Ce a _,⟨_,Ub _ U,U,U⟩,fun b hb=>?_,q⟩
 have e:b=s1.heap.objs.size:=by simpa using hb
 subst e
 exact I1.Im (Ua _) (I1.hok.fresh (Ua _))
theorem IK {ZY:Ic}{σ:St}{H:Hp}{s:TF}{R:It->Hp->Prop}{E:Ix}{lo hi:Int}{t u v:Tok}{tk:Nat}(I:Inv X ZY σ H s)(h1 : -(2 ^ 62)<=lo)(h2:lo < 2 ^ 62)(h3 : -(2 ^ 62)<=hi)(h4:hi < 2 ^ 62)
  (q:R (Itr lo (hi - lo).toNat) H):Ug (Up X.prog X.w) X.A (aaT (.ref s.heap.objs.size)) (PIE X ZY σ tg R) E { s with heap:=s.heap.push { cls:=.type "range",data:=.fields #[.int lo t,.int hi u,.int 1 v] },toks:=tk }:=by
 refine wpAny_pyIter_range (IsRange.new ..) (small_one h1 h2 h3 h4) ?_
 have I1:Inv X ZY σ H { s with heap:=s.heap.push { cls:=.type "range",data:=.fields #[.int lo t,.int hi u,.int 1 v] },toks:=tk }:=I.kept fun b o e=>Tz _ e
 refine⟨(s.heap.push { cls:=.type "range",data:=.fields #[.int lo t,.int hi u,.int 1 v] }).objs.size,[(s.heap.push { cls:=.type "range",data:=.fields #[.int lo t,.int hi u,.int 1 v] }).objs.size],_,_,H,U,
  I1.kept (t':=tk) fun b o e=>Tz _ e,Cj _ lo (hi - lo).toNat,?_,fun b hb=>?_,q⟩
 ·have e1:lo+((0:Nat):Int) * 1=lo:=by simp
  have e2:(((hi - lo).toNat:Nat):Int) - ((0:Nat):Int)=Builtin.Range.rangeSize lo hi 1:=by rw[rangeSize_one];split <;> lia
  show IsRangeIter _ _ (lo+((0:Nat):Int) * 1) ((((hi - lo).toNat:Nat):Int) - ((0:Nat):Int)) 1
  rw[e1,e2]
  exact Ub _ U
 ·have e:b=(s.heap.push { cls:=.type "range",data:=.fields #[.int lo t,.int hi u,.int 1 v] }).objs.size:=by simpa using hb
  subst e
  exact I1.Im (Ua _) (I1.hok.fresh (Ua _))
def Q6 (ta:TA):TI:=fun σ H R=>ta σ H fun vs H1=>∃ j:Int,vs=[.int j]/\-(2 ^ 62)<=j/\j < 2 ^ 62/\R (Itr 0 j.toNat) H1
theorem bM {a:Expr} {ta:TA} {p pos:YM} (hg:Gl X "range") (hm:X.mg "range" = none) (ha:PA X [a] ta) (hs:U9 [a] X.env=[(false,W8 a X.env)]:=by rfl):PI X tg (.Call (.Name "range" p) [a] [] pos) (Q6 ta):=by
 intro ZY s σ H R I h
 refine Call_ (jx I hg hm boot_range (V1 (thn (ha pos ZY s σ H _ I h) fun us s1 ⟨vs,H1,I1,r1,q1⟩=>?_) hs U))
 obtain⟨j,e,q1,q2,q⟩:=q1
 subst e
 cases r1 with
 | cons r rr =>
  cases rr
  obtain⟨t,rfl⟩:=r
  exact call_range_1 (IK I1 (by lia) (by lia) q1 q2 (by simpa using q))
def Tq (wi:TI)(g:TG)(tb:TS):TS:=fun D σ H=>wi σ H fun J H1=>∃ W:Nat->Nat->St->Hp->Prop,(∃ m,W 0 m σ H1)/\∀ i m σ H,W i m σ H →
 (J.stop i H/\D.nx σ H)∨(J.go i H/\∃ N:St->Hp->Prop,(∀ σ' H',N σ' H'->∃ m',m' < m/\W (i+1) m' σ' H')/\∀ x H',J.yld i H x H'->g x σ H' fun σ2 H2=>tb { D with nx:=N,ct:=N,bk:=D.nx } σ2 H2)
def nZ (fp:II)(h:Vv):Ic:=fp.filterMap fun b=>(h.get? b).map fun o=>(b,o)
theorem dD {fp:II}{h:Vv}{b:Addr}{o:Xh}(hb:b∈fp)(e:h.get? b=some o):(b,o)∈nZ fp h:=List.mem_filterMap.mpr ⟨b,hb,by rw[e];rfl⟩
theorem Fg {fp:II}{h:Vv}{p:Addr × Xh}(hp:p∈nZ fp h):p.1∈fp/\h.get? p.1=some p.2:=by
 obtain⟨b,hb,e⟩:=List.mem_filterMap.mp hp
 cases q:h.get? b with
 | none=>rw[q] at e;cases e
 | some o =>
  rw[q] at e
  have e':(b,o)=p:=U4 e
  subst e'
  exact⟨hb,q⟩
theorem Inv.pinned {ZY:Ic}{σ:St}{H:Hp}{s:TF}{fp:II}(I:Inv X ZY σ H s)(hf:∀ b∈fp,tM X ZY H b)(ho:∀ b∈fp,∃ o,s.heap.get? b=some o/\∀ v,o.data≠.cell v):Inv X (ZY++nZ fp s.heap) σ H s :=
 I.Ih fun p hp=>(List.mem_append.mp hp).elim (fun z=>I.pin p (UW _ z)) fun z=>by
  obtain⟨hb,e⟩:=Fg z
  obtain⟨f0,f1,f2,_⟩:=hf p.1 hb
  obtain⟨o,e',d⟩:=ho p.1 hb
  rw[e] at e';cases e'
  exact⟨e,f0,f1,f2,d⟩
theorem Inv.j7 {ZY pl:Ic}{σ:St}{H:Hp}{s:TF}(I:Inv X (ZY++pl) σ H s):Inv X ZY σ H s:=I.Ih fun p hp=>I.pin p (UW _ (aaY _ hp))
theorem cW {iter:Expr}{body:IL}{wi:TI}{g:TG}{tb:TS}{pos:YM}(hp:PassesOwn (Up X.prog X.w) X.A X.env X.xe)(hc:X.calm=true)(hi:PI X tg iter wi)(hg:PG X tg g)(hb:PSs X body tb)
  (hs:∀ x,Xa iter X.env x=pure x:=by intro _;rfl):PS X (.For tg iter body [] pos) (Tq wi g tb):=by
 intro ZY s σ H D I h
 refine wpAny_For (thn (hi ZY s σ H _ I h) fun v s1 h1=>thn h1 fun itv s2 h2=>?_) hs
 obtain⟨it,fp,tn,J,H2,e,I2,T,st2,f2,W,⟨m0,w0⟩,turn⟩:=h2
 subst e
 have stat:∀ {H':Hp},(∀ b∈fp,H' b=none)->∀ b∈fp,tM X ZY H' b:=fun hn b hb=>⟨hn b hb,(f2 b hb).2⟩
 refine codeAny_forLoop_any (fun n s'=>∃ i σ' H',Inv X ZY σ' H' s'/\tn i s'.heap/\(∀ b∈fp,H' b=none)/\W i n σ' H') ?_ m0 ⟨0,σ,H2,I2,st2,fun b hb=>(f2 b hb).1,w0⟩
 rintro n s3 ⟨i,σ3,H3,I3,st3,fr3,w3⟩
 rcases turn i n σ3 H3 w3 with⟨stop,qn⟩ | ⟨go,N,hN,step⟩
 ·refine Yg hp (thn (T.done X U U U hc i ZY s3 σ3 H3 X.xe I3 (stat fr3) st3 stop) fun r s4 ⟨hr,I4⟩=>?_)
  subst hr
  exact aaD ⟨σ3,H3,I4,qn⟩
 ·refine Yg hp (thn (T.item X U U U hc i ZY s3 σ3 H3 X.xe I3 (stat fr3) st3 go) fun r s4 ⟨u,hr,h4⟩=>?_)
  subst hr
  refine Yg hp (thn h4 fun _ s5 ⟨x,H5,I5,r5,y5,st5,fr5⟩=>?_)
  have I5':=I5.pinned (stat fr5) (T.obj _ _ st5)
  refine Yg hp (thn (hg _ s5 σ3 H5 x u _ I5' r5 (step x H5 y5)) fun _ s6 ⟨σ6,H6,I6,q6⟩=>?_)
  refine Yg hp (thn (hb _ s6 σ6 H6 _ I6 q6) fun f s7 q7=>?_)
  have again:∀ {σ7:St} {H7:Hp},Inv X (ZY++nZ fp s5.heap) σ7 H7 s7->N σ7 H7->∃ m,m < n/\∃ i σ' H',Inv X ZY σ' H' s7/\tn i s7.heap/\(∀ b∈fp,H' b=none)/\W i m σ' H':=fun {σ7 H7} I7 n7=>by
   obtain⟨m',hm,w7⟩:=hN σ7 H7 n7
   refine⟨m',hm,i+1,σ7,H7,I7.j7,T.keep _ _ _ st5 fun b hb o e=>(I7.pin (b,o) (UW _ (UW _ (dD hb e)))).1,fun b hb=>?_,w7⟩
   obtain⟨o,e,d⟩:=T.obj _ _ st5 b hb
   exact (I7.pin (b,o) (UW _ (UW _ (dD hb e)))).2.1
  cases f with
  | next=>obtain⟨σ7,H7,I7,n7⟩:=q7;exact again I7 n7
  | cont=>obtain⟨σ7,H7,I7,n7⟩:=q7;exact again I7 n7
  | brk=>obtain⟨σ7,H7,I7,q7⟩:=q7;exact⟨σ7,H7,I7.j7,q7⟩
  | ret v=>obtain⟨x7,σ7,H7,I7,r7,q7⟩:=q7;exact⟨x7,σ7,H7,I7.j7,r7,q7⟩
end
theorem jb {K:Ut}{a:Addr}{xs:List V}{g:TG}{tb:TS}{D:Ends}{σ:St}{H:Hp}(Pv:Nat->St->Hp->Prop)(h0:Pv 0 σ H)(hl:∀ i σ H,i<=xs.length->Pv i σ H->SqL K H a xs)
  (hs:∀ i x σ H,xs[i]? = some x->Pv i σ H->g x σ H fun σ2 H2=>tb { D with nx:=Pv (i+1),ct:=Pv (i+1),bk:=D.nx } σ2 H2) (hd:∀ σ H,Pv xs.length σ H->D.nx σ H) :
  ∃ W:Nat->Nat->St->Hp->Prop,(∃ m,W 0 m σ H)/\∀ i m σ H,W i m σ H →
   ((Itl K a).stop i H/\D.nx σ H)∨((Itl K a).go i H/\∃ N:St->Hp->Prop,(∀ σ' H',N σ' H'->∃ m',m' < m/\W (i+1) m' σ' H')/\∀ x H',(Itl K a).yld i H x H'->g x σ H' fun σ2 H2=>tb { D with nx:=N,ct:=N,bk:=D.nx } σ2 H2):=by
 refine⟨fun i m σ H=>m=xs.length - i/\i<=xs.length/\Pv i σ H,⟨xs.length,by simp,Uw _,h0⟩,?_⟩
 rintro i m σ H ⟨rfl,hi,p⟩
 have q:=hl i σ H hi p
 by_cases hlt:i < xs.length
 ·refine .inr ⟨⟨xs,xs[i],q,by simp [hlt]⟩,Pv (i+1),fun σ' H' p'=>⟨xs.length - (i+1),by lia,U,hlt,p'⟩,fun x H' y=>?_⟩
  obtain⟨e,y⟩:=y
  subst e
  exact hs i x σ _ (y xs q) p
 ·have e:i=xs.length:=by lia
  subst e
  exact .inl ⟨⟨xs,q,Ua _⟩,hd σ H p⟩
theorem qQ {K:Ut}{a:Addr}{xs:List V}{g:TG}{tb:TS}{D:Ends}{σ:St}{H:Hp}(Pv:Nat->St->Hp->Prop)(h0:Pv 0 σ H)(hl:∀ i σ H,i<=xs.length->Pv i σ H->SqT K H a xs)
  (hs:∀ i x σ H,xs[i]? = some x->Pv i σ H->g x σ H fun σ2 H2=>tb { D with nx:=Pv (i+1),ct:=Pv (i+1),bk:=D.nx } σ2 H2) (hd:∀ σ H,Pv xs.length σ H->D.nx σ H) :
  ∃ W:Nat->Nat->St->Hp->Prop,(∃ m,W 0 m σ H)/\∀ i m σ H,W i m σ H →
   ((Itt K a).stop i H/\D.nx σ H)∨((Itt K a).go i H/\∃ N:St->Hp->Prop,(∀ σ' H',N σ' H'->∃ m',m' < m/\W (i+1) m' σ' H')/\∀ x H',(Itt K a).yld i H x H'->g x σ H' fun σ2 H2=>tb { D with nx:=N,ct:=N,bk:=D.nx } σ2 H2):=by
 refine⟨fun i m σ H=>m=xs.length - i/\i<=xs.length/\Pv i σ H,⟨xs.length,by simp,Uw _,h0⟩,?_⟩
 rintro i m σ H ⟨rfl,hi,p⟩
 have q:=hl i σ H hi p
 by_cases hlt:i < xs.length
 ·refine .inr ⟨⟨xs,xs[i],q,by simp [hlt]⟩,Pv (i+1),fun σ' H' p'=>⟨xs.length - (i+1),by lia,U,hlt,p'⟩,fun x H' y=>?_⟩
  obtain⟨e,y⟩:=y
  subst e
  exact hs i x σ _ (y xs q) p
 ·have e:i=xs.length:=by lia
  subst e
  exact .inl ⟨⟨xs,q,Ua _⟩,hd σ H p⟩
theorem fc {lo:Int}{n:Nat}{g:TG}{tb:TS}{D:Ends}{σ:St}{H:Hp}(Pv:Nat->St->Hp->Prop)(h0:Pv 0 σ H)
  (hs:∀ i σ H,i < n->Pv i σ H->g (.int (lo+i)) σ H fun σ2 H2=>tb { D with nx:=Pv (i+1),ct:=Pv (i+1),bk:=D.nx } σ2 H2) (hd:∀ σ H,Pv n σ H->D.nx σ H) :
  ∃ W:Nat->Nat->St->Hp->Prop,(∃ m,W 0 m σ H)/\∀ i m σ H,W i m σ H →
   ((Itr lo n).stop i H/\D.nx σ H)∨((Itr lo n).go i H/\∃ N:St->Hp->Prop,(∀ σ' H',N σ' H'->∃ m',m' < m/\W (i+1) m' σ' H')/\∀ x H',(Itr lo n).yld i H x H'->g x σ H' fun σ2 H2=>tb { D with nx:=N,ct:=N,bk:=D.nx } σ2 H2):=by
 refine⟨fun i m σ H=>m=n - i/\i<=n/\Pv i σ H,⟨n,by simp,Uw _,h0⟩,?_⟩
 rintro i m σ H ⟨rfl,hi,p⟩
 by_cases hlt:i < n
 ·refine .inr ⟨hlt,Pv (i+1),fun σ' H' p'=>⟨n - (i+1),by lia,U,hlt,p'⟩,fun x H' y=>?_⟩
  obtain⟨e,y⟩:=y
  subst e y
  exact hs i σ _ hlt p
 ·have e:i=n:=by lia
  subst e
  exact .inl ⟨Ua _,hd σ H p⟩
theorem IW {c:TT}{tb:TS}{D:Ends}{σ:St}{H:Hp}(Pv:St->Hp->Prop)(μ:St->Hp->Nat)(h0:Pv σ H)
  (hs:∀ σ H,Pv σ H->c σ H fun b H1=>if b=true then tb { D with nx:=fun σ' H'=>Pv σ' H'/\μ σ' H' < μ σ H,ct:=fun σ' H'=>Pv σ' H'/\μ σ' H' < μ σ H,bk:=D.nx } σ H1 else D.nx σ H1)
  (mono:∀ σ H Q Q',(∀ b H1,Q b H1->Q' b H1)->c σ H Q->c σ H Q'):Lz c tb D σ H:=by
 refine⟨fun m σ H=>m=μ σ H/\Pv σ H,⟨_,U,h0⟩,?_⟩
 rintro m σ H ⟨rfl,p⟩
 refine mono σ H _ _ (fun b H1 q=>?_) (hs σ H p)
 cases b with
 | true=>exact⟨_,fun σ' H' ⟨p',l⟩=>⟨_,l,U,p'⟩,q⟩
 | false=>exact q
abbrev R2:=V->V->Hp->VK->Prop
def OpR (X:Cx)(f:Value->Value->Sem Value)(r:R2):Prop :=
 ∀ (ZY:Ic) (s:TF) (σ:St) (H:Hp) (x y:V) (v u:Value) (Q:VK),Inv X ZY σ H s->RelV x v->RelV y u->r x y H Q →
  Ug (Up X.prog X.w) X.A (f v u) (EP X ZY σ Q) X.xe s
def UnR (X:Cx)(f:Value->Sem Value)(r:V->Hp->VK->Prop):Prop :=
 ∀ (ZY:Ic) (s:TF) (σ:St) (H:Hp) (x:V) (v:Value) (Q:VK),Inv X ZY σ H s->RelV x v->r x H Q →
  Ug (Up X.prog X.w) X.A (f v) (EP X ZY σ Q) X.xe s
def iT (X:Cx)(f:Value)(r:List V->Hp->VK->Prop):Prop :=
 ∀ (ZY:Ic) (s:TF) (σ:St) (H:Hp) (xs:List V) (us:IF) (Q:VK),Inv X ZY σ H s->Vals xs us->r xs H Q →
  Ug (Up X.prog X.w) X.A (call f us) (EP X ZY σ Q) X.xe s
def tOp (r:R2)(ta tb:TE):TE:=fun σ H Q=>ta σ H fun x H1=>tb σ H1 fun y H2=>r x y H2 Q
def tUn (r:V->Hp->VK->Prop)(ta:TE):TE:=fun σ H Q=>ta σ H fun x H1=>r x H1 Q
inductive rI (C:Int->Int->Prop)(g:Int->Int->V)(x:V)(y:V)(H:Hp)(Q:VK):Prop where
 | mk (i:Int) (j:Int) (_:x = .int i) (_:y = .int j) (_:C i j) (_:Q (g i j) H)
inductive rI0 (g:Int->Int->V)(x:V)(y:V)(H:Hp)(Q:VK):Prop where
 | mk (i:Int) (j:Int) (_:x = .int i) (_:y = .int j) (_:Q (g i j) H)
inductive rU (g:Int->V)(x:V)(H:Hp)(Q:VK):Prop where
 | mk (i:Int) (_:x = .int i) (_:Q (g i) H)
section
variable {X:Cx}{a b c:Expr}{ta tb tc:TE}{pos:YM}
theorem RJ (ha:PE X a ta)(hb:PE X b tb){ZY:Ic}{s:TF}{σ:St}{H:Hp}{R:V->V->Hp->Prop}(I:Inv X ZY σ H s)
  (h:ta σ H fun x H1=>tb σ H1 fun y H2=>R x y H2) {Q:Ix} {f:Value->Value->Sem Value}
  (hf:∀ v u s2 x y H2,Inv X ZY σ H2 s2->RelV x v->RelV y u->R x y H2->Ug (Up X.prog X.w) X.A (f v u) Q X.xe s2) :
  Ug (Up X.prog X.w) X.A (W8 a X.env) (fun v s₁=>Ug (Up X.prog X.w) X.A (W8 b X.env) (fun u s₂=>Ug (Up X.prog X.w) X.A (f v u) Q X.xe s₂) X.xe s₁) X.xe s:=by
 refine thn (ha ZY s σ H _ I h) fun v s1 ⟨x,H1,I1,r1,q1⟩=>?_
 refine thn (hb ZY s1 σ H1 _ I1 q1) fun u s2 ⟨y,H2,I2,r2,q2⟩=>?_
 exact hf v u s2 x y H2 I2 r1 r2 q2
theorem aH {op:Operator}{r:R2}(ho:OpR X (Yq op) r)(ha:PE X a ta)(hb:PE X b tb):PE X (.BinOp a op b pos) (tOp r ta tb):=by
 intro ZY s σ H Q I h
 exact wpAny_BinOp (RJ ha hb I h fun v u s2 x y H2 I2 rx ry q=>ho ZY s2 σ H2 x y v u Q I2 rx ry q)
theorem yO {op:UnaryOp}{r:V->Hp->VK->Prop}(ho:UnR X (unaryOp op) r)(ha:PE X a ta):PE X (.UnaryOp op a pos) (tUn r ta):=by
 intro ZY s σ H Q I h
 exact UnaryOp_ (thn (ha ZY s σ H _ I h) fun v s1 ⟨x,H1,I1,r1,q1⟩=>ho ZY s1 σ H1 x v Q I1 r1 q1)
theorem opI {f:Value->Value->Sem Value}{C:Int->Int->Prop}{g:Int->Int->Int}
  (rule:∀ (i j:Int) (t u:Tok) (s:TF) (Q:Ix) (E:Ix),C i j->Q (.int (g i j) s.toks) { s with toks:=s.toks+1 }->Ug (Up X.prog X.w) X.A (f (.int i t) (.int j u)) Q E s) :
  OpR X f (rI C fun i j=>.int (g i j)):=by
 intro ZY s σ H x y v u Q I rx ry h
 obtain⟨i,j,rfl,rfl,hc,q⟩:=h
 obtain⟨t,rfl⟩:=rx
 obtain⟨t',rfl⟩:=ry
 exact rule i j t t' s _ _ hc ⟨.int (g i j),H,I.tok _,⟨_,U⟩,q⟩
theorem R5 {f:Value->Value->Sem Value}{g:Int->Int->Int}
  (rule:∀ (i j:Int) (t u:Tok) (s:TF) (Q:Ix) (E:Ix),Q (.int (g i j) s.toks) { s with toks:=s.toks+1 }->Ug (Up X.prog X.w) X.A (f (.int i t) (.int j u)) Q E s) :
  OpR X f (rI0 fun i j=>.int (g i j)):=by
 intro ZY s σ H x y v u Q I rx ry h
 obtain⟨i,j,rfl,rfl,q⟩:=h
 obtain⟨t,rfl⟩:=rx
 obtain⟨t',rfl⟩:=ry
 exact rule i j t t' s _ _ ⟨.int (g i j),H,I.tok _,⟨_,U⟩,q⟩
theorem RK {f:Value->Value->Sem Value}{g:Int->Int->Bool}
  (rule:∀ (i j:Int) (t u:Tok) (s:TF) (Q:Ix) (E:Ix),Q (.bool (g i j)) s->Ug (Up X.prog X.w) X.A (f (.int i t) (.int j u)) Q E s) :
  OpR X f (rI0 fun i j=>.bl (g i j)):=by
 intro ZY s σ H x y v u Q I rx ry h
 obtain⟨i,j,rfl,rfl,q⟩:=h
 obtain⟨t,rfl⟩:=rx
 obtain⟨t',rfl⟩:=ry
 exact rule i j t t' s _ _ ⟨.bl (g i j),H,I,U,q⟩
def SX (i j:Int):Prop:=0 < j/\j < 1073741824
def Sd (i j:Int):Prop:=0<=j/\j<=1000000/\i.natAbs < 2 ^ 64
def Ru (i j:Int):Prop:=(-(2 ^ 64) < i/\i < 2 ^ 64)∨(-(2 ^ 64) < j/\j < 2 ^ 64)
theorem Ru.ok {i j:Int}(h:Ru i j):IntMulOk i j:=by
 rcases h with⟨h1,h2⟩ | ⟨h1,h2⟩
 ·exact .of_left (intBits_le_64 h1 h2)
 ·exact .of_right (intBits_le_64 h1 h2)
theorem bF:OpR X (Yq .Add) (rI0 fun i j=>.int (i+j)):=R5 fun _ _ _ _ _ _ _ q=>add_int q
theorem oV:OpR X (Yq .Sub) (rI0 fun i j=>.int (i - j)):=R5 fun _ _ _ _ _ _ _ q=>sub_int q
theorem gY:OpR X (Yq .Mult) (rI Ru fun i j=>.int (i * j)):=opI fun _ _ _ _ _ _ _ hc q=>mul_int q hc.ok
theorem uU:OpR X (Yq .FloorDiv) (rI SX fun i j=>.int (i / j)):=opI fun i j _ _ _ _ _ hc q=>by
 have h1:(0:Int) < j:=hc.1
 have h2:j < 1073741824:=hc.2
 exact floordiv_int (by lia) (by rw[Int.fdiv_eq_ediv_of_nonneg i (by lia)];exact q) (.inl (PyProof.noPylong_small (by lia)))
theorem cI:OpR X (Yq .Mod) (rI (fun _ j=>0 < j) fun i j=>.int (i % j)):=opI fun i j _ _ _ _ _ hc q=>by
 have h1:(0:Int) < j:=hc
 exact mod_int' (by lia) (by rw[Int.fmod_eq_emod_of_nonneg i (by lia)];exact q)
theorem rQ:OpR X (Yq .Pow) (rI Sd fun i j=>.int (i ^ j.toNat)):=opI fun _ _ _ _ _ _ _ hc q=>pow_int_small hc.1 hc.2.1 hc.2.2 q
theorem unI {f:Value->Sem Value}{g:Int->Int}
  (rule:∀ (i:Int) (t:Tok) (s:TF) (Q:Ix) (E:Ix),Q (.int (g i) s.toks) { s with toks:=s.toks+1 }->Ug (Up X.prog X.w) X.A (f (.int i t)) Q E s) :
  UnR X f (rU fun i=>.int (g i)):=by
 intro ZY s σ H x v Q I rx h
 obtain⟨i,rfl,q⟩:=h
 obtain⟨t,rfl⟩:=rx
 exact rule i t s _ _ ⟨.int (g i),H,I.tok _,⟨_,U⟩,q⟩
theorem pP:UnR X (unaryOp .USub) (rU fun i=>.int (-i)):=unI fun _ _ _ _ _ q=>neg_int q
end
def RT:V->V->Bool
 | .non,.non=>true | .non,.int _=>true | .int _,.non=>true | .non,.bl _=>true | .bl _,.non=>true | .non,.str _=>true | .str _,.non=>true
 | .int _,.int _=>true | .bl _,.bl _=>true | .str _,.str _=>true | .byt _,.byt _=>true
 | .int _,.str _=>true | .str _,.int _=>true | .bl _,.str _=>true | .str _,.bl _=>true
 | _,_=>false
def rEq:R2:=fun x y H Q=>RT x y=true/\Q (.bl (decide (x=y))) H
def rNe:R2:=fun x y H Q=>RT x y=true/\Q (.bl (!decide (x=y))) H
theorem HY {i j:Int}:decide (V.int i=V.int j)=(i == j):=by
 rw[YW]
 simp
theorem K4 {i j:Bool}:decide (V.bl i=V.bl j)=(i == j):=by
 rw[YW]
 simp
theorem Fe {i j:VM}:decide (V.str i=V.str j)=(i == j):=by
 rw[YW]
 simp
theorem Gn {i j:Array UInt8}:decide (V.byt i=V.byt j)=(i.toList == j.toList):=by
 rw[YW]
 cases i
 cases j
 simp
section
variable {X:Cx}{a b c:Expr}{ta tb tc:TE}{pos:YM}
theorem bR {ZY:Ic}{σ:St}{H:Hp}{s:TF}{Q:VK}{k k':Bool}(I:Inv X ZY σ H s)(q:Q (.bl k) H)(e:k=k'):EP X ZY σ Q (.bool k') s:=by
 subst e
 exact⟨.bl k,H,I,U,q⟩
theorem dg:OpR X (Wl .Eq) rEq:=by
 intro ZY s σ H x y v u Q I rx ry h
 obtain⟨hs,q⟩:=h
 cases x with
 | non =>
  cases rx
  cases y with
  | non=>cases ry;exact PySem.EqNone.eq_none_none (bR I q (by simp))
  | bl j=>cases ry;exact PySem.EqNone.eq_none_bool (bR I q (by simp))
  | int j=>obtain⟨t',rfl⟩:=ry;exact PySem.EqNone.eq_none_int (bR I q (by simp))
  | str j=>obtain⟨t',rfl⟩:=ry;exact PySem.EqNone.eq_none_str (bR I q (by simp))
  | _=>exact absurd (show false=true from hs) Uc
 | bl i =>
  cases rx
  cases y with
  | non=>cases ry;exact PySem.EqNone.eq_bool_none (bR I q (by simp))
  | bl j=>cases ry;exact eq_bool (bR I q K4)
  | str j=>obtain⟨t',rfl⟩:=ry;exact PySem.EqMixed.eq_bool_str (bR I q (by simp))
  | _=>exact absurd (show false=true from hs) Uc
 | int i =>
  obtain⟨t,rfl⟩:=rx
  cases y with
  | non=>cases ry;exact PySem.EqNone.eq_int_none (bR I q (by simp))
  | int j=>obtain⟨t',rfl⟩:=ry;exact eq_int (bR I q HY)
  | str j=>obtain⟨t',rfl⟩:=ry;exact PySem.EqMixed.eq_int_str (bR I q (by simp))
  | _=>exact absurd (show false=true from hs) Uc
 | str i =>
  obtain⟨t,rfl⟩:=rx
  cases y with
  | non=>cases ry;exact PySem.EqNone.eq_str_none (bR I q (by simp))
  | bl j=>cases ry;exact PySem.EqMixed.eq_str_bool (bR I q (by simp))
  | int j=>obtain⟨t',rfl⟩:=ry;exact PySem.EqMixed.eq_str_int (bR I q (by simp))
  | str j=>obtain⟨t',rfl⟩:=ry;exact eq_str (bR I q Fe)
  | _=>exact absurd (show false=true from hs) Uc
 | byt i =>
  obtain⟨t,rfl⟩:=rx
  cases y with
  | byt j=>obtain⟨t',rfl⟩:=ry;exact PySem.W.eq_bytes (bR I q Gn)
  | _=>exact absurd (show false=true from hs) Uc
 | _=>cases y <;> exact absurd (show false=true from hs) Uc
theorem O9:OpR X (Wl .NotEq) rNe:=by
 intro ZY s σ H x y v u Q I rx ry h
 obtain⟨hs,q⟩:=h
 cases x with
 | non =>
  cases rx
  cases y with
  | non=>cases ry;exact PySem.EqNone.ne_none_none (bR I q (by simp))
  | bl j=>cases ry;exact PySem.EqNone.ne_none_bool (bR I q (by simp))
  | int j=>obtain⟨t',rfl⟩:=ry;exact PySem.EqNone.ne_none_int (bR I q (by simp))
  | str j=>obtain⟨t',rfl⟩:=ry;exact PySem.EqNone.ne_none_str (bR I q (by simp))
  | _=>exact absurd (show false=true from hs) Uc
 | bl i =>
  cases rx
  cases y with
  | non=>cases ry;exact PySem.EqNone.ne_bool_none (bR I q (by simp))
  | bl j=>cases ry;exact ne_bool (bR I q (congrArg not K4))
  | str j=>obtain⟨t',rfl⟩:=ry;exact PySem.EqMixed.ne_bool_str (bR I q (by simp))
  | _=>exact absurd (show false=true from hs) Uc
 | int i =>
  obtain⟨t,rfl⟩:=rx
  cases y with
  | non=>cases ry;exact PySem.EqNone.ne_int_none (bR I q (by simp))
  | int j=>obtain⟨t',rfl⟩:=ry;exact ne_int (bR I q (congrArg not HY))
  | str j=>obtain⟨t',rfl⟩:=ry;exact PySem.EqMixed.ne_int_str (bR I q (by simp))
  | _=>exact absurd (show false=true from hs) Uc
 | str i =>
  obtain⟨t,rfl⟩:=rx
  cases y with
  | non=>cases ry;exact PySem.EqNone.ne_str_none (bR I q (by simp))
  | bl j=>cases ry;exact PySem.EqMixed.ne_str_bool (bR I q (by simp))
  | int j=>obtain⟨t',rfl⟩:=ry;exact PySem.EqMixed.ne_str_int (bR I q (by simp))
  | str j=>obtain⟨t',rfl⟩:=ry;exact ne_str (bR I q (congrArg not Fe))
  | _=>exact absurd (show false=true from hs) Uc
 | byt i =>
  obtain⟨t,rfl⟩:=rx
  cases y with
  | byt j=>obtain⟨t',rfl⟩:=ry;exact PySem.W.ne_bytes (bR I q (congrArg not Gn))
  | _=>exact absurd (show false=true from hs) Uc
 | _=>cases y <;> exact absurd (show false=true from hs) Uc
theorem Cv:OpR X (Wl .Lt) (rI0 fun i j=>.bl (decide (i < j))):=RK fun _ _ _ _ _ _ _ q=>lt_int q
theorem tZ:OpR X (Wl .Gt) (rI0 fun i j=>.bl (decide (j < i))):=RK fun _ _ _ _ _ _ _ q=>gt_int q
theorem vy:OpR X (Wl .GtE) (rI0 fun i j=>.bl (decide (j<=i))):=RK fun _ _ _ _ _ _ _ q=>ge_int q
theorem Lb (b:Expr){op:CmpOp}(h:op≠.In:=by decide)(h2:op≠.NotIn:=by decide):Xf op b=false:=by
 have e1:(op == CmpOp.In)=false:=by cases op <;> first | rfl | exact absurd rfl h
 have e2:(op == CmpOp.NotIn)=false:=by cases op <;> first | rfl | exact absurd rfl h2
 cases b <;> simp [Xf,e1,e2]
theorem HH {op:CmpOp}{r:R2}(ho:OpR X (Wl op) r)(ha:PE X a ta)(hb:PE X b tb)(hm:Xf op b=false):PE X (.Compare a [op] [b] pos) (tOp r ta tb):=by
 intro ZY s σ H Q I h
 exact wpAny_Compare1 (RJ ha hb I h fun v u s2 x y H2 I2 rx ry q=>ho ZY s2 σ H2 x y v u Q I2 rx ry q) hm
def Qc (t:TE):TT:=fun σ H Q=>t σ H fun x H'=>ExB x fun k=>Q k H'
theorem nQ {op:CmpOp}{r:R2}(ho:OpR X (Wl op) r)(ha:PE X a ta)(hb:PE X b tb)(hm:Xf op b=false):PT X (.Compare a [op] [b] pos) (Qc (tOp r ta tb)):=by
 intro ZY s σ H Q I h
 refine wpAny_isTrue_Compare1 (thn (ha ZY s σ H _ I h) fun v s1 ⟨x,H1,I1,r1,q1⟩=>thn (hb ZY s1 σ H1 _ I1 q1) fun u s2 ⟨y,H2,I2,r2,q2⟩ =>
  thn (ho ZY s2 σ H2 x y v u _ I2 r1 r2 q2) fun c s3 ⟨z,H3,I3,r3,k,e,q3⟩=>?_) hm
 subst e
 cases r3
 exact WD ⟨H3,I3,q3⟩
theorem sE:(sizeLine:Nat) < 2 ^ 63:=by rw[Wv];decide
theorem vals1 {x:V}{us:IF}(r:Vals [x] us):∃ u,us=[u]/\RelV x u:=by
 cases r with
 | cons r1 r2=>cases r2;exact⟨_,U,r1⟩
theorem vals2 {x y:V}{us:IF}(r:Vals [x,y] us):∃ u w',us=[u,w']/\RelV x u/\RelV y w':=by
 cases r with
 | cons r1 r2 =>
  cases r2 with
  | cons r3 r4=>cases r4;exact⟨_,_,U,r1,r3⟩
theorem pD:iT X (.builtin "abs") (fun xs H Q=>∃ i,xs=[.int i]/\Q (.int (if i < 0 then -i else i)) H):=by
 intro ZY s σ H xs us Q I r h
 obtain⟨i,rfl,q⟩:=h
 obtain⟨u,rfl,t,rfl⟩:=vals1 r
 exact call_abs_int fun u tk=>⟨.int (if i < 0 then -i else i),H,I.tok _,⟨_,U⟩,q⟩
theorem qX (hc:X.calm=true):iT X (.builtin "max") (fun xs H Q=>∃ i j,xs=[.int i,.int j]/\Q (.int (if j > i then j else i)) H):=by
 intro ZY s σ H xs us Q I r h
 obtain⟨i,j,rfl,q⟩:=h
 obtain⟨u,w',rfl,⟨t,rfl⟩,⟨t',rfl⟩⟩:=vals2 r
 refine max_two_ints (I.ok.hd hc) fun h' tk k=>⟨_,H,I.kept k,?_,q⟩
 by_cases hj:j > i
 ·rw[if_pos hj,if_pos hj];exact⟨_,U⟩
 ·rw[if_neg hj,if_neg hj];exact⟨_,U⟩
theorem pU (hc:X.calm=true):iT X (.builtin "min") (fun xs H Q=>∃ i j,xs=[.int i,.int j]/\Q (.int (if j < i then j else i)) H):=by
 intro ZY s σ H xs us Q I r h
 obtain⟨i,j,rfl,q⟩:=h
 obtain⟨u,w',rfl,⟨t,rfl⟩,⟨t',rfl⟩⟩:=vals2 r
 refine min_two_ints (I.ok.hd hc) fun h' tk k=>⟨_,H,I.kept k,?_,q⟩
 by_cases hj:j < i
 ·rw[if_pos hj,if_pos hj];exact⟨_,U⟩
 ·rw[if_neg hj,if_neg hj];exact⟨_,U⟩
theorem wO:iT X (.type "int") (fun xs H Q=>(∃ i,xs=[.int i]/\Q (.int i) H)∨∃ k,xs=[.bl k]/\Q (.int (if k then 1 else 0)) H):=by
 intro ZY s σ H xs us Q I r h
 rcases h with⟨i,rfl,q⟩ | ⟨k,rfl,q⟩
 ·obtain⟨u,rfl,t,rfl⟩:=vals1 r
  exact call_int_int ⟨.int i,H,I,⟨_,U⟩,q⟩
 ·obtain⟨u,rfl,r1⟩:=vals1 r
  cases r1
  exact call_int_bool ⟨.int (if k then 1 else 0),H,I.tok _,⟨_,U⟩,q⟩
end
structure Rp (h:Vv)(x dx C:Addr)(mA:VM->IC):Prop where
 obj:h.get? x=some (ab4 C dx)
 ns:h.Ns1 dx mA
 ne:dx≠x
theorem Fi {h:Vv}{dx:Addr}{mA:VM->IC}(n:h.Ns1 dx mA):∃ od,h.get? dx=some od/\∀ name,PySem.W.lookIn name od=some (mA name):=by
 obtain⟨o,es,ep,ho,hd,hk,_,hm⟩:=n
 refine⟨o,ho,fun name=>?_⟩
 have e:=hm name
 unfold nsFind findBy at e
 rw[← Array.find?_toList] at e
 unfold PySem.W.lookIn
 rw[hd]
 dsimp only
 split
 ·rename_i y q
  rw[q] at e
  exact congrArg some e
 ·rename_i q
  rw[q] at e
  have a:es.toList.any (·.refKey)=false:=by
   rw[List.any_eq_false]
   intro y hy
   obtain⟨z,t,hkey⟩:=hk y (Array.mem_toList_iff.mp hy)
   simp [DictEntry.refKey,hkey]
  have a':¬ es.toList.any (·.refKey)=true:=by rw[a];exact Uc
  rw[if_neg a']
  exact congrArg some e
theorem Rp.look {h:Vv}{x dx C:Addr}{mA:VM->IC}(I:Rp h x dx C mA):∃ od,PySem.W.InstAt h x (ab4 C dx) C (some od)/\∀ name,PySem.W.lookIn name od=some (mA name) :=
 let ⟨od,ho,hl⟩:=Fi I.ns
 ⟨od,⟨I.obj,U,U,ho⟩,hl⟩
section
variable {prog:Uy}{w:Ve}{A:Vf}{E:Ix}{s:TF}{K:Ut}{x dx C f:Addr}{mA:VM->IC}{name:VM}{v:Value}
end
theorem HD.some_of {v:V}{o:IC}(r:HD (some v) o):∃ u,o=some u/\RelV v u:=by
 cases o with
 | none=>exact (show False from r).elim
 | some u=>exact⟨u,U,r⟩
section
variable {P:Uy}{w:Ve}{H H':Hp}{h h':Vv}{a C dx:Addr}{fs fs':List (VM × V)}
theorem Oi (hok:HOk P w H h)(e:H a=some (.ins C dx fs)):∃ mA,Rp h a dx C mA/\(∀ f,HD (fs.lookup f) (mA f))/\PySem.Within mA (fs.map (·.1))/\fs.length<=1000/\H dx=some (.own a):=by
 obtain⟨d,z,ne,ob,mA,n,r,q⟩:=(show eE P w H h a (.ins C dx fs) from hok a _ e)
 exact⟨mA,⟨ob,n,ne⟩,r,q,z,d⟩
end
structure Cls (K:Ut)(C:Addr):Prop where
 pg:PySem.W.plainGet K C Str.empty=true
 hd:PySem.W.hasDictIn K C=true
 po:PySem.W.plainOver K C=true
 sa:PySem.W.findIn K (.ref C) "__setattr__" = some (some (.builtin "object.__setattr__"))
theorem Cls.get {K:Ut}{C:Addr}(c:Cls K C)(f:VM):PySem.W.plainGet K C f=true:=c.pg
section
variable {X:Cx}{ZY:Ic}{σ:St}{H:Hp}{s:TF}{a C dx:Addr}{fs:List (VM × V)}{f:VM}{v:V}{A:Vf}{E:Ix}
end
section
variable {X:Cx}{o e value:Expr}{f:VM}{pos pos' tpos:YM}{ta tv:TE}
end
section
variable {X:Cx}{ZY:Ic}{σ:St}{H:Hp}{s:TF}{A:Vf}{E:Ix}{Q:Ix}{c:Value}{b:Bool}
inductive Cr (K:Ut)(H:Hp):V->Value->Prop where
 | non:Cr K H .non (.type "NoneType")
 | bl (x:Bool):Cr K H (.bl x) (.type "bool")
 | int (i:Int):Cr K H (.int i) (.type "int")
 | str (x:VM):Cr K H (.str x) (.type "str")
 | flt (x:UInt64):Cr K H (.flt x) (.type "float")
 | lst {a:Addr} {xs:List V} (e:H a=some (.lst xs)):Cr K H (.ref a) (.type "list")
 | frz {a:Addr} {o:Xh} {xs:List V} (e:H a=some (.frz o (.lst xs))):Cr K H (.ref a) (.type "list")
 | tup {a:Addr} {xs:List V} (e:H a=some (.tup xs)):Cr K H (.ref a) (.type "tuple")
 | dK {a:Addr} {kvs:List (Key × V)} (e:H a=some (.dK kvs)):Cr K H (.ref a) (.type "dict")
 | dT {a:Addr} {kvs:List (List Key × V)} (e:H a=some (.dT kvs)):Cr K H (.ref a) (.type "dict")
 | ins {a C dx:Addr} {fs:List (VM × V)} (e:H a=some (.ins C dx fs)) (cl:Cls K C) (ha:PySem.W.findIn K (.ref C) "__class__" = some (some (.builtin "object.__class__")))
   (hn:PySem.W.specialIn K (.builtin "object.__class__") "__get__" = some (some (.builtin "getset_descriptor.__get__"))) (htk:PySem.W.takesIn K (.builtin "object.__class__")=some true)
   (hm:PySem.W.mroIn K C (.type "object")=some true):Cr K H (.ref a) (.ref C)
theorem G8 {x:V}{u t:Value}(I:Inv X ZY σ H s)(rx:RelV x u)(ty:Cr X.K H x t)(e:PySem.W.kitOne X.K t c=some b)(h:∀ tk,Q (.bool b) { s with toks:=tk }) :
  Ug (Up X.prog X.w) A (call (.builtin "isinstance") [u,c]) Q E s:=by
 cases ty with
 | non=>cases (show u=U0 from rx);exact Wr PySem.W.kitx_none I.kIn Yr e (fun z=>nomatch z) h
 | bl y=>cases (show u=aaw y from rx);exact Wr PySem.W.kitx_bool I.kIn Yr e (fun z=>nomatch z) h
 | int i=>obtain⟨t,q⟩:=(show ∃ t,u=XR i t from rx);cases q;exact Wr PySem.W.kitx_int I.kIn Yr e (fun z=>nomatch z) h
 | str y=>obtain⟨t,q⟩:=(show ∃ t,u=Value.str y t from rx);cases q;exact Wr PySem.W.kitx_str I.kIn Yr e (fun z=>nomatch z) h
 | flt y=>obtain⟨t,q⟩:=(show ∃ t,u=Value.float y t from rx);cases q;exact Wr PySem.W.kitx_float I.kIn Yr e (fun z=>nomatch z) h
 | @lst a xs ea =>
  cases (show u=U5 a from rx)
  obtain⟨_,_,n,_,h1⟩:=(show eE X.prog X.w H s.heap a (.lst xs) from I.hok a _ ea)
  exact Wr PySem.W.kitx_list I.kIn ⟨_,h1,U⟩ e (fun z=>nomatch z) h
 | @frz a ob xs ea =>
  cases (show u=U5 a from rx)
  obtain⟨_,_,_,n,_,h1⟩:=(show eE X.prog X.w H s.heap a (.frz ob (.lst xs)) from I.hok a _ ea)
  exact Wr PySem.W.kitx_list I.kIn ⟨_,h1,U⟩ e (fun z=>nomatch z) h
 | @tup a xs ea =>
  cases (show u=U5 a from rx)
  obtain⟨_,_,_,p⟩:=(show eE X.prog X.w H s.heap a (.tup xs) from I.hok a _ ea)
  obtain⟨o,h1,h2,_⟩:=p
  exact Wr PySem.W.kitx_tuple I.kIn ⟨o,h1,h2⟩ e (fun z=>nomatch z) h
 | @dK a kvs ea =>
  cases (show u=U5 a from rx)
  obtain⟨_,_,vs,_,p⟩:=(show eE X.prog X.w H s.heap a (.dK kvs) from I.hok a _ ea)
  obtain⟨o,es,ep,h1,h2,_⟩:=p
  exact Wr PySem.W.kitx_dict I.kIn ⟨o,h1,h2.1⟩ e (fun z=>nomatch z) h
 | @dT a kvs ea =>
  cases (show u=U5 a from rx)
  obtain⟨_,_,xs,_,o,es,ep,h1,h2,_⟩:=(show eE X.prog X.w H s.heap a (.dT kvs) from I.hok a _ ea)
  exact Wr PySem.W.kitx_dict I.kIn ⟨o,h1,h2.1⟩ e (fun z=>nomatch z) h
 | @ins a C dx fs ea cl ha hn htk hm =>
  cases (show u=U5 a from rx)
  obtain⟨mA,O,_⟩:=Oi I.hok ea
  obtain⟨od,J,_⟩:=O.look
  exact Wr (PySem.W.kitx_own (cl.get _) cl.hd ha hn htk hm) I.kIn J e (fun z=>nomatch z) h
end
structure rm (k:Nat)(A:Vf):Prop where
 hd:A.handled=none
 dp:A.depth+3 * k+5 < recursionLimit
 un:A.units+16 * k+200 < cLine
theorem rm.mono {j k:Nat}{A:Vf}(r:rm k A)(h:j<=k):rm j A:=⟨r.hd,by have:=r.dp;lia,by have:=r.un;lia⟩
theorem rm.deeper {k:Nat}{A:Vf}(r:rm (k+1) A)(env:Env):rm k (A.deeper env) :=
 ⟨r.hd,by have:=r.dp;show A.depth+1+3 * k+5 < _;lia,by have:=r.un;show A.units+3+16 * k+200 < _;lia⟩
theorem rm.depth {k:Nat}{A:Vf}(r:rm k A):A.depth < recursionLimit:=by have:=r.dp;lia
theorem rm.gU {k:Nat}{A:Vf}(r:rm k A):A.units < cLine:=by have:=r.un;lia
def uz:TA:=fun _ H Q=>Q [] H
def dI (ta:TE)(tr:TA):TA:=fun σ H Q=>ta σ H fun x H1=>tr σ H1 fun xs H2=>Q (x::xs) H2
section
variable {X:Cx}{e:Expr}{es:IJ}{te:TE}{t:TA}{pos:YM}
theorem cY:PA X [] uz:=fun _ _ _ _ H Q I h=>Calls.spliced_nil ⟨[],H,I,.nil,h⟩
theorem au (ha:PE X e te)(hr:PA X es t)(hs:U9 (e::es) X.env=(false,W8 e X.env)::U9 es X.env:=by rfl):PA X (e::es) (dI te t):=by
 intro pos ZY s σ H Q I h
 rw[hs]
 show Ug _ _ (spliced ((false,W8 e X.env)::Zj pos (U9 es X.env))) _ _ s
 refine Calls.spliced_cons (thn (ha ZY s σ H _ I h) fun u s1 ⟨x,H1,I1,r1,q1⟩=>?_)
 exact thn (hr pos ZY s1 σ H1 _ I1 q1) fun us s2 ⟨xs,H2,I2,r2,q2⟩=>⟨x::xs,H2,I2,.cons r1 r2,q2⟩
def O1 (t:TA):TE:=fun σ H Q=>t σ H fun xs H1=>xs.length<=sizeLine/\∀ p,H1 p=none->Q (.ref p) (upd H1 p (.tup xs))
def QB (t:TA):TE:=fun σ H Q=>t σ H fun xs H1=>xs.length<=sizeLine/\∀ p,H1 p=none->Q (.ref p) (upd H1 p (.lst xs))
theorem bD {x1}(h:PA X es t):PE X (.Tuple es x1 pos) (O1 t):=by
 intro ZY s σ H Q I hq
 refine wpAny_Tuple_spliced (thn (h pos ZY s σ H _ I hq) fun us s1 ⟨xs,H1,I1,r,z,q⟩=>⟨by rw[← r.length];exact z,?_⟩)
 have hf:H1 s1.heap.objs.size=none:=I1.hok.fresh (Ua _)
 refine⟨.ref s1.heap.objs.size,upd H1 s1.heap.objs.size (.tup xs),I1.laid (t':=s1.toks) (fun b u e=>Tz _ e) (Ua _) ?_,U,q _ hf⟩
 exact⟨z,us,r,⟨_,Ub _ U,U,_,U⟩⟩
theorem aX (h:PA X es t):PE X (.List es pos) (QB t):=by
 intro ZY s σ H Q I hq
 refine wpAny_List_spliced (thn (h pos ZY s σ H _ I hq) fun us s1 ⟨xs,H1,I1,r,z,q⟩=>⟨by rw[← r.length];exact z,?_⟩)
 have hf:H1 s1.heap.objs.size=none:=I1.hok.fresh (Ua _)
 refine⟨.ref s1.heap.objs.size,upd H1 s1.heap.objs.size (.lst xs),I1.laid (t':=s1.toks) (fun b u e=>Tz _ e) (Ua _) ?_,U,q _ hf⟩
 exact⟨z,us,0,r,Ub _ U⟩
end
abbrev Sp:=List V->Hp->VK->XK->Prop
abbrev CXT:=IM->Hp->TF->XK->Ix
structure QZ (P:Uy)(w:Ve)(K:Ut)(mg:VM->IC)(base:Vv)(A:Vf)(outer:IM)(s:TF)(H:Hp):Prop where
 frames:A.frames=some outer
 mod:Mod K mg base
 bs:∀ b o,base.get? b=some o->s.heap.get? b=some o/\H b=none
 bsz:base.objs.size<=s.heap.objs.size
 Gf:s.heap.FunFrames base outer
 frf:∀ b∈frs outer,H b=none
 hok:HOk P w H s.heap
 bare:aaC s.gens
def CE (outer:IM)(P:Uy)(w:Ve)(H:Hp)(s:TF)(Q:VK)(u:Value)(s':TF):Prop :=
 ∃ v H',s'.os=s.os/\aaC s'.gens/\Un (frs outer) [] H H' s.heap s'.heap/\HOk P w H' s'.heap/\RelV v u/\Q v H'
def CR (CX:CXT)(outer:IM)(P:Uy)(w:Ve)(H:Hp)(s:TF)(Q:VK)(E:XK)(r:abb)(s':TF):Prop :=
 match r with
 | .ok (.ret u)=>CE outer P w H s Q u s'
 | .ok _=>False
 | .error e=>CX outer H s E e s'
structure dF (P:Uy)(w:Ve)(K:Ut)(mg:VM->IC)(base:Vv)(CX:CXT)(k:Nat)(f:Addr)(fd:Yi)(ps:IR)(sp:Sp):Prop where
 len:∀ vs H Q E,sp vs H Q E->vs.length=ps.length
 run:∀ (A:Vf) (outer:IM) (s:TF) (H:Hp) (args:Args) (us:IF) (vs:List V) (Q:VK) (E:XK),rm k A->QZ P w K mg base A outer s H->aa1 s fd args (ps.zip us)->Vals vs us->sp vs H Q E →
  WL (Up P w) A (.call (.ref f) args) (CR CX outer P w H s Q E) s
section
variable {X:Cx}{ZY:Ic}{σ:St}{H:Hp}{s s':TF}
theorem Inv.env0 (I:Inv X ZY σ H s):QZ X.prog X.w X.K X.mg X.base X.A X.stack s H :=
 ⟨I.ok.frames,I.ok.mod,I.bs,Vd I.ok.bsz I.sz,I.stack,I.GQ,I.hok,I.bare⟩
theorem Inv.after {Q:VK}{u:Value}(I:Inv X ZY σ H s)(h:CE X.stack X.prog X.w H s Q u s'):EP X ZY σ Q u s':=by
 obtain⟨v,H',os,bare,un,hok,r,q⟩:=h
 obtain⟨hh,g,d,t,os'⟩:=s'
 obtain rfl:os'=s.os:=os
 exact⟨v,H',I.call (h':=hh) (g':=g) (d':=d) (t':=t) (ch:=[]) un hok bare (fun b z=>absurd z (by simp)),r,q⟩
end
def Cg (sp:Sp)(dvs:List V)(E:XK)(t:TA):TE:=fun σ H Q=>t σ H fun vs H1=>sp (vs++dvs) H1 Q E
def Binds (K:Ut)(fd:Yi)(ps:IR)(ds:IF):Prop :=
 ∀ (s:TF) (us:IF),K.In s.heap->(us++ds).length=ps.length->aa1 s fd ⟨us,[]⟩ (ps.zip (us++ds))
theorem Binds.all {K:Ut}{fd:Yi}{ps:IR}(h:∀ us:IF,us.length=ps.length->aaU fd ⟨us,[]⟩=pure (ps.zip us)):Binds K fd ps []:=fun s us _ hl=>by
 rw[Wa] at hl ⊢
 exact .of_eq (h us hl)
def Passes (CX:CXT)(X:Cx)(E:XK):Prop:=∀ (ZY:Ic) (σ:St) (H:Hp) (s:TF) (e:Value) (s':TF),Inv X ZY σ H s->CX X.stack H s E e s'->X.xe e s'
section
variable {X:Cx}{CX:CXT}{k:Nat}{f C:Addr}{fd:Yi}{ps:IR}{sp:Sp}{dvs:List V}{ds:IF}{E:XK}{x m:VM}{p pos apos:YM}{e o:Expr}{es:IJ}{ta:TE}{t:TA}
theorem Qy {ZY:Ic}{σ:St}{H:Hp}{s:TF}{Q:VK}{us:IF}{vs:List V}(F:dF X.prog X.w X.K X.mg X.base CX k f fd ps sp)(hr:rm k X.A)(hb:Binds X.K fd ps ds)(hd:Vals dvs ds)(hx:Passes CX X E)
  (I:Inv X ZY σ H s) (r:Vals vs us) (h:sp (vs++dvs) H Q E):Ug (Up X.prog X.w) X.A (call (.ref f) us) (EP X ZY σ Q) X.xe s:=by
 have r2:Vals (vs++dvs) (us++ds):=r.append hd
 have hl:(us++ds).length=ps.length:=by rw[← r2.length];exact F.len _ _ _ _ h
 refine wpAny_call (ZP (F.run X.A X.stack s H ⟨us,[]⟩ (us++ds) (vs++dvs) Q E hr I.env0 (hb s us I.kIn hl) r2 h) fun r s' hq=>?_)
 cases r with
 | error e=>exact hx ZY σ H s e s' I hq
 | ok fl =>
  cases fl with
  | ret u=>exact I.after hq
  | next=>exact Yv hq
  | brk=>exact Yv hq
  | cont=>exact Yv hq
theorem Oz (F:dF X.prog X.w X.K X.mg X.base CX k f fd ps sp)(hr:rm k X.A)(hg:Gl X x)(hm:X.mg x=some (.ref f))(hk:Z1 X.K (.ref f)=true)(hb:Binds X.K fd ps ds)(hd:Vals dvs ds)(hx:Passes CX X E)
  (ha:PA X (e::es) t) (hdb:(x == ("__debug__" : VM))=false:=by decide) (he:U9 (e::es) X.env=(false,W8 e X.env)::U9 es X.env:=by rfl) (hpl:(Zj pos (U9 es X.env)).any (·.1)=false:=by rfl) :
  PE X (.Call (.Name x p) (e::es) [] pos) (Cg sp dvs E t):=by
 intro ZY s σ H Q I h
 refine X6 (Ni I hg hm ?_ hdb)
 refine PySem.W.callWith_K (h₀:=X.base) I.ok.mod.kin hk (thn (ha pos ZY s σ H _ I h) fun us s1 ⟨vs,H1,I1,r,q⟩=>⟨I1.kIn,?_⟩) he hpl
 exact Qy F hr hb hd hx I1 r q
end
section
variable {X:Cx}{CX:CXT}{k:Nat}{f C:Addr}{fd:Yi}{ps ks:IR}{sp:Sp}{E:XK}{x m:VM}{p pos apos kpos:YM}{e o:Expr}{es:IJ}{kws:List Keyword}{te ta:TE}{t tk:TA}{nm:Option VM}
variable {g:IF->IF->IF}{gV:List V->List V->List V}
end
structure aK (N P:IR)(sc:Yz):Prop where
 kind:sc.kind = .function
 co:sc.isCoroutine=false
 gen:sc.isGenerator=false
 nd:N.Nodup
 pre:N.take P.length=P
 par:∀ x∈P,sc.names.lookup x=some .local∨sc.names.lookup x=some .cell
 nofree:∀ y∈sc.names,y.2≠.free
theorem wX {kindOf:VM->Option Z2}{x:VM}:∀ {binds:HZ} {m:VM->IC},(∀ v,(x,v) ∉ binds)->bindL kindOf binds m x=m x
 | [],_,_=>rfl
 | (n,v)::r,m,h=>by
  unfold bindL
  rw[wX fun w hw=>h w (TX _ hw)]
  split
  ·have:x≠n:=by rintro rfl;exact h v TY
   simp [this]
  ·rfl
theorem vK {kindOf:VM->Option Z2}{x:VM}:∀ {binds:HZ} {m:VM->IC},(∀ v,(x,v) ∉ binds)->bindC kindOf binds m x=m x
 | [],_,_=>rfl
 | (n,v)::r,m,h=>by
  unfold bindC
  rw[vK fun w hw=>h w (TX _ hw)]
  split
  ·rfl
  ·have:x≠n:=by rintro rfl;exact h v TY
   simp [this]
theorem xG {kindOf:VM->Option Z2}{x:VM}{v:Value}:∀ {P:IR} {vs:IF} {i:Nat} {m:VM->IC},P.Nodup->P[i]? = some x->vs[i]? = some v->kindOf x=some .local →
  bindL kindOf (P.zip vs) m x=some v
 | [],_,_,_,_,h,_,_=>by simp at h
 | _::_,[],_,_,_,_,h,_=>by simp at h
 | p::P,w::vs,0,m,nd,h1,h2,hk=>by
  simp at h1 h2;subst h1;subst h2
  show bindL kindOf ((p,w)::P.zip vs) m p=_
  unfold bindL
  rw[wX fun v hv=>(List.nodup_cons.mp nd).1 (ab5 hv).1,if_pos hk]
  simp
 | p::P,w::vs,i+1,m,nd,h1,h2,hk=>by
  show bindL kindOf ((p,w)::P.zip vs) m x=_
  unfold bindL
  exact xG (i:=i) (List.nodup_cons.mp nd).2 (by simpa using h1) (by simpa using h2) hk
theorem xO {kindOf:VM->Option Z2}{x:VM}{v:Value}:∀ {P:IR} {vs:IF} {i:Nat} {m:VM->IC},P.Nodup->P[i]? = some x->vs[i]? = some v->kindOf x≠some .local →
  bindC kindOf (P.zip vs) m x=some v
 | [],_,_,_,_,h,_,_=>by simp at h
 | _::_,[],_,_,_,_,h,_=>by simp at h
 | p::P,w::vs,0,m,nd,h1,h2,hk=>by
  simp at h1 h2;subst h1;subst h2
  show bindC kindOf ((p,w)::P.zip vs) m p=_
  unfold bindC
  rw[vK fun v hv=>(List.nodup_cons.mp nd).1 (ab5 hv).1,if_neg hk]
  simp
 | p::P,w::vs,i+1,m,nd,h1,h2,hk=>by
  show bindC kindOf ((p,w)::P.zip vs) m x=_
  unfold bindC
  exact xO (i:=i) (List.nodup_cons.mp nd).2 (by simpa using h1) (by simpa using h2) hk
def start (N:IR)(vs:List V):St:=vs.map some++Ur (N.length - vs.length) none
def M8 (CX:CXT)(P:Uy)(w:Ve)(K:Ut)(mg:VM->IC)(base:Vv)(N:IR)(qual:VM)(scope:Yz)(f:Addr)(cd:Value)(A:Vf)(outer:IM)(s:TF)(H:Hp)(E:XK):Cx where
 prog:=P
 w:=w
 K:=K
 mg:=mg
 base:=base
 A:=A.deeper (envOfC qual scope s.heap.objs.size f cd)
 N:=N
 s₀:=s
 H₀:=H
 env:=envOfC qual scope s.heap.objs.size f cd
 outer:=outer
 stack:=envOfC qual scope s.heap.objs.size f cd::outer
 ex:=[]
 calm:=true
 fn:=fun _=>true
 pn:=[]
 xe:=fun e s'=>Ug (Up P w) (A.deeper (envOfC qual scope s.heap.objs.size f cd)) (leaving (envOfC qual scope s.heap.objs.size f cd) e) (fun _ s''=>CX outer H s E e s'') (fun e' s''=>CX outer H s E e' s'') s'
theorem Av {sc:Yz}{n:Nat}{x:VM}(h:sc.names.lookup x=some .cell):∃ c,(cellsFrom n sc.names []).lookup x=some c:=by
 have q:=PySem.W.cellsFrom_some sc.names n [] (.inl h)
 exact Option.isSome_iff_exists.mp q
theorem Gq {CX:CXT}{P:Uy}{w:Ve}{K:Ut}{mg:VM->IC}{base:Vv}{N ps:IR}{qual:VM}{scope:Yz}{f:Addr}{cd:Value}{A:Vf}{outer:IM}{s s1:TF}{H:Hp}{E:XK}{us:IF}{vs:List V}
  (S:aK N ps scope) (hd:A.handled=none) (e0:QZ P w K mg base A outer s H) (hl:vs.length=ps.length) (r:Vals vs us)
  (x:InCallC s s.heap.objs.size (bindL (envOfC qual scope s.heap.objs.size f cd).kindOf (ps.zip us) fun _=>none) (cellsFrom (s.heap.objs.size+1) scope.names []) (bindC (envOfC qual scope s.heap.objs.size f cd).kindOf (ps.zip us) fun _=>none) s1) :
  Inv (M8 CX P w K mg base N qual scope f cd A outer s H E) [] (start N vs) H s1:=by
 have hpl:ps.length<=N.length:=by have:=congrArg aae S.pre;rw[Uj] at this;lia
 obtain⟨h1,tk,rfl,hk⟩:=x.done
 have noA:∀ b:Addr,b ∉ (M8 CX P w K mg base N qual scope f cd A outer s H E).ex:=fun b z=>absurd (show b∈([]:II) from z) (by simp)
 refine⟨⟨e0.mod,S.kind,U,U,Ua _,fun y z c h1 h2=>?_,fun y hy=>?_,fun y c _ h=>?_,fun _=>hd,Around.frames_deeper e0.frames,.inr ⟨U,U⟩,fun b z=>absurd z (noA b),e0.bs,e0.bsz,fun b _ _=>noA b,fun b z=>absurd z (noA b),e0.Gf,e0.frf⟩,
  rfl,e0.bare,Un.kept hk,⟨_,x.toInCall.ns,fun i y v h1 h2 h3=>?_⟩,fun y c h=>⟨_,x.cell y c h⟩,e0.hok.fresh (Ua _),fun y c h=>?_,fun p hp=>absurd (show p∈([]:Ic) from hp) (by simp),e0.hok.kept hk,?_⟩
 ·exact name_of_addr x.apart (Wj h1) (Wj h2)
 ·have hy:scope.names.lookup y=some .cell∨scope.names.lookup y=some .free:=hy
  rcases hy with hy | hy
  ·exact Av hy
  ·exact absurd U (S.nofree _ (Wj hy))
 ·exact Yy (x.above y c (Wj h))
 ·have hi:i < vs.length:=by
   unfold start at h2
   by_cases hi:i < vs.length
   ·exact hi
   ·rw[Vl (by simpa using hi)] at h2
    rw[Y5] at h2
    split at h2 <;> cases h2
  have ha:vs[i]? = some v:=by
   unfold start at h2
   rw[Wh (by simpa using hi),Uo] at h2
   cases e:vs[i]? with
   | none=>rw[e] at h2;cases h2
   | some a=>rw[e] at h2;cases h2;rfl
  obtain⟨u,hu,rv⟩:=r.get ha
  have hp:ps[i]? = some y:=by
   rw[← S.pre,YH (by lia)];exact h1
  have ndP:ps.Nodup:=by rw[← S.pre];exact S.nd.sublist (aac _ _)
  refine⟨u,rv,?_⟩
  rcases S.par y (Ud hp) with k | k
  ·exact .inl ⟨k,xG ndP hp hu k⟩
  ·obtain⟨c,e⟩:=Av (n:=s.heap.objs.size+1) k
   refine .inr ⟨.inl k,c,e,?_⟩
   have q:=x.cell y c e
   rw[xO ndP hp hu (by show scope.names.lookup y≠_;rw[k];decide)] at q
   exact q
 ·exact e0.hok.fresh (Yy (x.above y c (Wj h)))
 ·unfold start
  show _=N.length
  rw[Uh,Tw,We]
  lia
theorem Rt {CX:CXT}{P:Uy}{w:Ve}{K:Ut}{mg:VM->IC}{base:Vv}{k:Nat}{f:Addr}{name qual:VM}{params:Arguments}{body:IL}{scope:Yz}{dV kV doc pm cdv ct oc:Value}{an od:ID}
  {osl:Array (IC)} {N ps:IR} {sp:Sp} (lk:K.lookup f=some ⟨oc,od,.func (Y9 name qual params body scope dV kV doc pm an cdv ct),osl⟩) (hcd:aaV K cdv qual=true) (S:aK N ps scope)
  (len:∀ vs H Q E,sp vs H Q E->vs.length=ps.length)
  (hbody:∀ (A:Vf) (outer:IM) (s:TF) (H:Hp) (vs:List V) (Q:VK) (E:XK),rm k (A.deeper (envOfC qual scope s.heap.objs.size f cdv))->sp vs H Q E →
   ∃ t,PSs (M8 CX P w K mg base N qual scope f cdv A outer s H E) body t/\t { nx:=fun _ H'=>Q .non H',rt:=Q } (start N vs) H) :
  dF P w K mg base CX (k+1) f (Y9 name qual params body scope dV kV doc pm an cdv ct) ps sp:=by
 refine⟨len,fun A outer s H args us vs Q E hr e0 hb r hsp=>?_⟩
 have hl:=len _ _ _ _ hsp
 have KX:K.In s.heap:=e0.mod.kin.keeps fun b o e=>(e0.bs b o e).1
 have lim:s.heap.NoLimit:=e0.mod.nolimit.keeps fun b o e=>(e0.bs b o e).1
 have hkind:∀ y∈ps.zip us,scope.names.lookup y.1=some .local∨(scope.names.lookup y.1=some .cell/\((cellsFrom (s.heap.objs.size+1) scope.names []).lookup y.1).isSome=true):=fun⟨n,v⟩ hy=>by
  rcases S.par n (ab5 hy).1 with q | q
  ·exact .inl q
  ·exact .inr ⟨q,PySem.W.cellsFrom_some _ _ _ (.inl q)⟩
 refine codeAny_call_function hr.depth (KX _ _ lk) U S.co S.gen U (PySem.W.codeRec_of KX hcd) (hb _ _ _ _ ?_)
 refine wpAny_newFunctionEnv_cells S.kind hkind fun env he s1 x=>?_
 subst he
 refine⟨lim.keeps x.toInCall.keep,codeAny_func ?_⟩
 obtain⟨t,ht,hq⟩:=hbody A outer s H vs Q E (hr.deeper _) hsp
 have I:Inv (M8 CX P w K mg base N qual scope f cdv A outer s H E) [] (start N vs) H s1:=Gq S hr.hd e0 hl r x
 refine VB (ht [] s1 (start N vs) H _ I hq) (fun fl s' hs=>?_) fun e s' hs=>hs
 have fin:∀ {σ':St} {H':Hp} {v:V} {u:Value},Inv (M8 CX P w K mg base N qual scope f cdv A outer s H E) [] σ' H' s'->RelV v u->Q v H'->CE outer P w H s Q u s' :=
  fun {σ' H' v u} J rv q=>⟨v,H',J.os,J.bare,J.base,J.hok,rv,q⟩
 cases fl with
 | ret u =>
  obtain⟨v,σ',H',J,rv,q⟩:=hs
  exact fin J rv q
 | next =>
  obtain⟨σ',H',J,q⟩:=hs
  exact fin (v:=V.non) (u:=U0) J U q
 | brk =>
  obtain⟨_,_,_,q⟩:=hs
  exact Yv q
 | cont =>
  obtain⟨_,_,_,q⟩:=hs
  exact Yv q
section
variable {X:Cx}{x:VM}{p pos:YM}{e:Expr}{es:IJ}{t:TA}{id T:String}{r:List V->Hp->VK->Prop}
def tCB (r:List V->Hp->VK->Prop)(t:TA):TE:=fun σ H Q=>t σ H fun vs H1=>r vs H1 Q
theorem aL (hc:iT X (.builtin id) r) (hg:Gl X x) (hm:X.mg x=none) (hv:VF x=some (.builtin id)) (ha:PA X (e::es) t) (hn:x≠"__name__":=by decide) (hdb:(x == ("__debug__" : VM))=false:=by decide)
  (he:U9 (e::es) X.env=(false,W8 e X.env)::U9 es X.env:=by rfl) (hpl:(Zj pos (U9 es X.env)).any (·.1)=false:=by rfl):PE X (.Call (.Name x p) (e::es) [] pos) (tCB r t):=by
 intro ZY s σ H Q I h
 refine X6 (jx I hg hm hv ?_ hn hdb)
 exact abN (thn (ha pos ZY s σ H _ I h) fun us s1 ⟨vs,H1,I1,r1,q1⟩=>hc ZY s1 σ H1 vs us Q I1 r1 q1) he hpl
theorem bG (hc:iT X (.type T) r) (hg:Gl X x) (hm:X.mg x=none) (hv:VF x=some (.type T)) (ha:PA X (e::es) t) (hn:x≠"__name__":=by decide) (hdb:(x == ("__debug__" : VM))=false:=by decide)
  (he:U9 (e::es) X.env=(false,W8 e X.env)::U9 es X.env:=by rfl) (hpl:(Zj pos (U9 es X.env)).any (·.1)=false:=by rfl):PE X (.Call (.Name x p) (e::es) [] pos) (tCB r t):=by
 intro ZY s σ H Q I h
 refine X6 (jx I hg hm hv ?_ hn hdb)
 exact V1 (thn (ha pos ZY s σ H _ I h) fun us s1 ⟨vs,H1,I1,r1,q1⟩=>hc ZY s1 σ H1 vs us Q I1 r1 q1) he hpl
end
end L2
namespace HT
open PySem PyProof.Rows
def lexLt:IN->IN->Bool
 | [],[]=>false
 | [],_::_=>true
 | _::_,[]=>false
 | x::xs,y::ys=>if x=y then lexLt xs ys else decide (x < y)
theorem fU (x y:Int)(xs ys:IN):lexLt (x::xs) (y::ys)=if x=y then lexLt xs ys else decide (x < y):=rfl
theorem rP (y:Int)(ys:IN):lexLt [] (y::ys)=true:=rfl
theorem rK (x:Int)(xs:IN):lexLt (x::xs) []=false:=rfl
section
open PySem.SeqAt
open PySem.AutoSeq1 (wpAny_loadPart')
open PySem.MeetsSeq PySem.MeetsSeq2 PySem.MeetsSeq3
end
section
variable {prog:Uy}{w:Ve}{A:Vf}{E:Ix}{s:TF}
theorem MF {t b:Addr}{vs ws:IF}{Q:Ix}(ht:IsTup s.heap t vs.toArray)(hb:IsTup s.heap b ws.toArray)(hv:vs≠[])
  (h1:ws=[]->Q (.ref t) s) (h2:ws≠[]->Q (.ref s.heap.objs.size) { s with heap:=s.heap.push { cls:=.type "tuple",data:=.seq (vs++ws).toArray } })
  (hsz:vs.length+ws.length<=sizeLine):Ug (Up prog w) A (Yq .Add (.ref t) (.ref b)) Q E s:=by
 obtain⟨⟨cls,dd,data,sl⟩,ho,hc,n,hd⟩:=id ht
 obtain⟨⟨cls2,dd2,data2,sl2⟩,ho2,hc2,n2,hd2⟩:=id hb
 simp only at hc hd hc2 hd2
 subst hc hd hc2 hd2
 have e:vs.toArray++ws.toArray=(vs++ws).toArray:=by simp
 by_cases hw:ws=[]
 ·exact concat_meets ⟨_,ho,U⟩ ⟨_,ho2,U⟩ abK seq_tuple_add aay aas (aak _ _)
   (tuple_addW1 t b vs.toArray ws.toArray n n2 dd dd2 sl sl2 (by simpa using hv) (by simp [hw])) ⟨ho,ho2,h1 hw⟩
 ·refine concat_meets ⟨_,ho,U⟩ ⟨_,ho2,U⟩ abK seq_tuple_add aay aas (aak _ _)
   (tuple_addW2 t b vs.toArray ws.toArray n n2 dd dd2 sl sl2 (by simpa using hv) (by simpa using hw) (by rw[Ue,Ue];exact hsz)) ⟨ho,ho2,?_⟩
  rw[e]
  exact h2 hw
def sIx (n d:Nat):IG->Nat
 | none=>d
 | some v=>if v < 0 then (v+(n:Int)).toNat else min v.toNat n
theorem Ao (n d:Nat):sIx n d none=d:=rfl
theorem tV (n d k:Nat):sIx n d (some (k:Int))=min k n:=by
 show (if (k:Int) < 0 then ((k:Int)+(n:Int)).toNat else min (k:Int).toNat n)=min k n
 rw[if_neg (by lia),UL]
theorem PK (n d:Nat)(hd:d<=n)(o:IG):sIx n d o<=n:=by
 cases o with
 | none=>exact hd
 | some v =>
  show (if v < 0 then (v+(n:Int)).toNat else min v.toNat n)<=n
  by_cases hv:v < 0
  ·rw[if_pos hv];lia
  ·rw[if_neg hv];exact Nat.min_le_right _ _
theorem FW (v:Int)(n d:Nat):(if v < 0 then max (v+(n:Int)) 0 else min v (n:Int))=((sIx n d (some v):Nat):Int):=by
 show (if v < 0 then max (v+(n:Int)) 0 else min v (n:Int))=(((if v < 0 then (v+(n:Int)).toNat else min v.toNat n):Nat):Int)
 by_cases hv:v < 0
 ·simp only[if_pos hv];lia
 ·simp only[if_neg hv];lia
theorem Ci (lo hi:IG)(n:Nat):Z7 lo hi 1 (n:Int)=(((sIx n 0 lo:Nat):Int),((sIx n n hi:Nat):Int)):=by
 have h1:¬ ((1:Int) < 0):=by lia
 unfold Z7
 simp only[h1,if_false]
 refine Prod.ext ?_ ?_
 ·cases lo with
  | none=>rfl
  | some v=>exact FW v n 0
 ·cases hi with
  | none=>rfl
  | some v=>exact FW v n n
theorem CZ (i j:Nat):YC (i:Int) (j:Int) 1=j - i:=by
 unfold YC
 have h1:(1:Int) > 0:=by lia
 simp only[h1,if_true,Int.ediv_one]
 split <;> lia
theorem sZ {v:Value}{o:IG}{Q:IG->TF->Prop}(p:abS v o)(h:Q o s):Ug (Up prog w) A (Builtin.Slice.slicePartIndex v) Q E s:=by
 cases p with
 | none=>exact slicePart_none h
 | int i t=>exact slicePart_int h
theorem o6 {sl:Addr}{vl vu:Value}{lo hi:IG}{n:Nat}{Q:Int × Int × Nat->TF->Prop}(hs:s.heap.IsSliceOf sl vl vu .none)(pl:abS vl lo)(pu:abS vu hi)
  (h:Q (((sIx n 0 lo:Nat):Int),1,sIx n n hi - sIx n 0 lo) s):Ug (Up prog w) A (Builtin.Slice.sliceApplied (.ref sl) (pure (n:Int))) Q E s:=by
 obtain⟨os,hos,hcs,hds⟩:=id hs
 unfold Builtin.Slice.sliceApplied Builtin.Slice.sliceFields
 refine Tv (Tv (Vr hos hds (x:=vl) U (Tv (Vr hos hds (x:=vu) U (Tv (Vr hos hds (x:=.none) U (TV ?_)))))))
 refine Tv (slicePart_none ?_)
 show Ug _ _ (if ((1:Int) == 0)=true then _ else _) _ _ s
 rw[if_neg (by decide)]
 refine Tv (sZ pl (Tv (sZ pu (Tv (TV ?_)))))
 show Ug _ _ (match Z7 lo hi 1 (n:Int) with | (lo,hi)=>pure (lo,(1:Int),YC lo hi 1)) _ _ s
 rw[Ci lo hi n]
 show Ug _ _ (pure (((sIx n 0 lo:Nat):Int),(1:Int),YC ((sIx n 0 lo:Nat):Int) ((sIx n n hi:Nat):Int) 1)) _ _ s
 rw[CZ]
 exact TV h
theorem Jy (xs:Array Value)(i k:Nat):((Ui k).filterMap fun (m:Nat)=>xs[((i:Int)+(m:Int) * 1).toNat]?).toArray=((xs.toList.drop i).take k).toArray:=by
 have e:(fun (m:Nat)=>xs[((i:Int)+(m:Int) * 1).toNat]?)=fun m=>xs[i+m]?:=by
  funext m
  have:((i:Int)+(m:Int) * 1).toNat=i+m:=by lia
  rw[this]
 rw[e]
 have:=pick_run xs i k
 rw[List.filterMap_map] at this
 have e2:((fun x=>xs[x]?) ∘ fun x=>i+x)=fun m=>xs[i+m]?:=rfl
 rw[e2] at this
 rw[this]
theorem nG {t sl:Addr}{items:Array Value}{vl vu:Value}{lo hi:IG}{Q:Ix}(ht:IsTup s.heap t items)(hs:s.heap.IsSliceOf sl vl vu .none)(pl:abS vl lo)(pu:abS vu hi)
  (hw:¬ (sIx items.size 0 lo=0/\sIx items.size items.size hi=items.size))
  (h:Q (.ref s.heap.objs.size) { s with heap:=s.heap.push { cls:=.type "tuple",data:=.seq ((items.toList.drop (sIx items.size 0 lo)).take (sIx items.size items.size hi - sIx items.size 0 lo)).toArray } })
  (hsz:items.size<=sizeLine):Ug (Up prog w) A (aa0 (.ref t) (.ref sl)) Q E s:=by
 have htake:sizeOk (.seq ((items.toList.drop (sIx items.size 0 lo)).take (sIx items.size items.size hi - sIx items.size 0 lo)).toArray):=by
  show ((items.toList.drop (sIx items.size 0 lo)).take (sIx items.size items.size hi - sIx items.size 0 lo)).toArray.size<=sizeLine
  rw[Ue,Uj,V4,Uv]
  lia
 have hj:sIx items.size items.size hi<=items.size:=PK _ _ (Ua _) hi
 obtain⟨os,hos,hcs,hds⟩:=id hs
 have hTs:s.TypeIs (.ref sl) "slice":=⟨os,hos,hcs⟩
 unfold aa0
 try with_reducible refine V5 ?_
 first | refine Tv (TV ?_) | skip
 refine Tv (wpAny_sequenceKey ht.typeIs (by decide) ?_)
 refine Tv (Vx (name:=WM "__getitem__") ht.typeIs abF
  (Vu abF ht.typeIs entry_tuple_getitem ?_ (args_tuple_getitem _ _)))
 show Ug _ _ (Builtin.Tuple.tupleItemsOf (.ref t) >>= _) _ _ s
 refine Tv (tupleItemsOf_ ht ?_)
 refine Tv (wpAny_typeOf hTs ?_)
 rw[if_pos (by decide)]
 refine Tv (o6 hs pl pu ?_)
 have hno:¬ ((((sIx items.size 0 lo:Nat):Int) == 0 && (1:Int) == 1 && (sIx items.size items.size hi - sIx items.size 0 lo) == items.size)=true):=by
  intro q
  rw[Wc,Wc] at q
  have q1:((sIx items.size 0 lo:Nat):Int)=0:=eq_of_beq q.1.1
  have q2:sIx items.size items.size hi - sIx items.size 0 lo=items.size:=eq_of_beq q.2
  exact hw ⟨by lia,by lia⟩
 show Ug _ _ (if (((sIx items.size 0 lo:Nat):Int) == 0 && (1:Int) == 1 && (sIx items.size items.size hi - sIx items.size 0 lo) == items.size)=true then _ else _) _ _ s
 rw[if_neg hno,Jy]
 first
  | exact Tv (m:=YJ _) (Vc (TV ⟨_,rfl,TV h⟩) htake)
  | exact Tv (m:=YJ _) (Vc (Tv (TV (TV ⟨_,rfl,TV h⟩))) htake)
  | exact Tv (Tv (m:=YJ _) (Vc (TV (TV ⟨_,rfl,TV h⟩)) htake))
  | exact Tv (Tv (m:=YJ _) (Vc (TV ⟨_,rfl,TV h⟩) htake))
end
end HT
namespace L2
open PySem PySem.Spec PyProof.Rows
abbrev TO:=St->Hp->(IG->Hp->Prop)->Prop
def PO (X:Cx)(e:Option Expr)(t:TO):Prop :=
 ∀ (ZY:Ic) (s:TF) (σ:St) (H:Hp) (Q:IG->Hp->Prop),Inv X ZY σ H s->t σ H Q →
  Ug (Up X.prog X.w) X.A (evalPart e X.env) (fun u s'=>∃ o H',Inv X ZY σ H' s'/\abS u o/\Q o H') X.xe s
def lC:TO:=fun _ H Q=>Q none H
def zq (t:TE):TO:=fun σ H Q=>t σ H fun x H1=>∃ i,x = .int i/\Q (some i) H1
theorem intsAre_of {ns:IN}:∀ {us:IF},Vals (ns.map V.int) us->Vn us ns:=by
 induction ns with
 | nil=>intro us r;rw[ZQ] at r;cases r;exact .nil
 | cons n ns ih =>
  intro us r
  rw[U6] at r
  cases r with
  | cons r1 r2 =>
   obtain⟨t,e⟩:=r1
   subst e
   exact .cons n t (ih r2)
section
variable {X:Cx}{e:Expr}{te:TE}{lo hi:Option Expr}{tl th:TO}{pos p2:YM}
theorem jo:PO X none lC:=by
 intro ZY s σ H Q I h
 rw[evalPart_none]
 exact TV ⟨none,H,I,.none,h⟩
theorem gm (h:PE X e te):PO X (some e) (zq te):=by
 intro ZY s σ H Q I hw
 rw[evalPart_some]
 refine thn (h ZY s σ H _ I hw) fun u s1 ⟨x,H1,I1,r1,q1⟩=>?_
 obtain⟨i,rfl,q⟩:=q1
 obtain⟨t,rfl⟩:=r1
 exact⟨some i,H1,I1,.int i t,q⟩
def SlR (X:Cx)(r:V->IG->IG->Hp->VK->Prop):Prop :=
 ∀ (ZY:Ic) (s:TF) (σ:St) (H:Hp) (x:V) (v vl vu:Value) (lo hi:IG) (sl:Addr) (Q:VK),Inv X ZY σ H s->RelV x v->s.heap.IsSliceOf sl vl vu .none->abS vl lo->abS vu hi->r x lo hi H Q →
  ∃ T id,typeLookup (.type T) "__getitem__" = pure (some (.builtin id))/\s.TypeIs v T/\Ug (Up X.prog X.w) X.A (aa0 v (.ref sl)) (EP X ZY σ Q) X.xe s
def tSl (r:V->IG->IG->Hp->VK->Prop)(te:TE)(tl th:TO):TE:=fun σ H Q=>te σ H fun x H1=>tl σ H1 fun l H2=>th σ H2 fun u H3=>r x l u H3 Q
theorem eX {r:V->IG->IG->Hp->VK->Prop}(hr:SlR X r)(he:PE X e te)(hl:PO X lo tl)(hu:PO X hi th):PE X (.Subscript e (.Slice lo hi none p2) pos) (tSl r te tl th):=by
 intro ZY s σ H Q I h
 refine Subscript_ (thn (he ZY s σ H _ I h) fun v s1 ⟨x,H1,I1,r1,q1⟩=>?_)
 refine wpAny_Slice (thn (hl ZY s1 σ H1 _ I1 q1) fun vl s2 ⟨l,H2,I2,pl,q2⟩=>thn (hu ZY s2 σ H2 _ I2 q2) fun vu s3 ⟨u,H3,I3,pu,q3⟩=>?_)
 rw[evalPart_none]
 refine TV ?_
 have I4:Inv X ZY σ H3 { s3 with heap:=s3.heap.push { cls:=.type "slice",data:=.fields #[vl,vu,.none] } }:=I3.kept (t':=s3.toks) fun b ob q=>Tz _ q
 obtain⟨T,id,hT,ht,hg⟩:=hr ZY { s3 with heap:=s3.heap.push { cls:=.type "slice",data:=.fields #[vl,vu,.none] } } σ H3 x v vl vu l u s3.heap.objs.size Q I4 r1 (Heap.IsSliceOf.new ..) pl pu q3
 show Ug (Up X.prog X.w) X.A (subscriptTail e (.Slice lo hi none p2) v (.ref s3.heap.objs.size)) (EP X ZY σ Q) X.xe { s3 with heap:=s3.heap.push { cls:=.type "slice",data:=.fields #[vl,vu,.none] } }
 exact tail_any (ops:=[.ref s3.heap.objs.size,v]) ht hT hg (by with_unfolding_all rfl)
def xZ (xs:List V)(lo hi:IG):List V:=(xs.drop (HT.sIx xs.length 0 lo)).take (HT.sIx xs.length xs.length hi - HT.sIx xs.length 0 lo)
theorem qw (xs:List V)(lo hi:IG):(xZ xs lo hi).length<=xs.length:=by
 unfold xZ
 rw[Uj,V4]
 lia
inductive Br (K:Ut)(x:V)(lo:IG)(hi:IG)(H:Hp)(Q:VK):Prop where
 | mk (a:Addr) (xs:List V) (_:x = .ref a) (_:SqT K H a xs) (_:¬ (HT.sIx xs.length 0 lo=0/\HT.sIx xs.length xs.length hi=xs.length)) (_:∀ p,H p=none->Q (.ref p) (upd H p (.tup (xZ xs lo hi))))
theorem qN:SlR X (Br X.K):=by
 intro ZY s σ H x v vl vu lo hi sl Q I rx hs pl pu h
 obtain⟨a,xs,rfl,hx,hw,q⟩:=h
 cases rx
 obtain⟨its,r,ht,hz⟩:=I.tuple hx
 have hlen:its.toArray.size=xs.length:=by rw[Ue];exact r.length.symm
 refine⟨"tuple",_,PyProof.Rows.slot_tuple_getitem.lookup,ht.typeIs,?_⟩
 refine HT.nG ht hs pl pu (by rw[hlen];exact hw) ?_ (by rw[hlen];exact hz)
 rw[hlen]
 refine⟨.ref s.heap.objs.size,_,I.laid (t':=s.toks) (o:=.tup (xZ xs lo hi)) (fun b ob q=>Tz _ q) (Ua _) ?_,U,q _ (I.hok.fresh (Ua _))⟩
 exact⟨Vd (qw xs lo hi) hz,_,(r.drop (HT.sIx xs.length 0 lo)).take (HT.sIx xs.length xs.length hi - HT.sIx xs.length 0 lo),IsTup.new _ _⟩
def RG (K:Ut):R2:=fun x y H Q=>∃ a b xs ys,x = .ref a/\y = .ref b/\SqT K H a xs/\SqT K H b ys/\xs≠[]/\xs.length+ys.length<=sizeLine ∧
 (ys=[]->Q (.ref a) H)/\(ys≠[]->∀ p,H p=none->Q (.ref p) (upd H p (.tup (xs++ys))))
theorem Vals.uP {xs:List V}{us:IF}(r:Vals xs us):us=[] ↔ xs=[]:=by
 cases r with
 | nil=>simp
 | cons _ _=>simp
theorem N5:OpR X (Yq .Add) (RG X.K):=by
 intro ZY s σ H x y v u Q I rx ry h
 obtain⟨a,b,xs,ys,rfl,rfl,ha,hb,hx,hz,q1,q2⟩:=h
 cases rx
 cases ry
 obtain⟨its,r1,p1,_⟩:=I.tuple ha
 obtain⟨its2,r2,p2,_⟩:=I.tuple hb
 refine HT.MF p1 p2 (fun z=>hx (r1.uP.mp z)) (fun z=>⟨.ref a,H,I,U,q1 (r2.uP.mp z)⟩) (fun z=>?_) (by rw[← r1.length,← r2.length];exact hz)
 refine⟨.ref s.heap.objs.size,_,I.laid (t':=s.toks) (o:=.tup (xs++ys)) (fun b ob q=>Tz _ q) (Ua _) ?_,U,q2 (fun w=>z (r2.uP.mpr w)) _ (I.hok.fresh (Ua _))⟩
 exact⟨by rw[Uh];exact hz,_,r1.append r2,IsTup.new _ _⟩
end
def ixN (n:Nat)(i:Int):IH:=if 0<=i then (if i < n then some i.toNat else none) else if -(n:Int)<=i then some (i+n).toNat else none
def atI {α:Type}(xs:List α)(i:Int):Option α:=(ixN xs.length i).bind fun j=>xs[j]?
theorem Ea {n:Nat}{i:Int}{j:Nat}(h:ixN n i=some j):abJ i n=some j/\j < n/\-(n:Int)<=i/\i < n:=by
 unfold ixN at h
 by_cases h0:0<=i
 ·rw[if_pos h0] at h
  by_cases h1:i < n
  ·rw[if_pos h1] at h
   have e:i.toNat=j:=U4 h
   exact⟨by rw[seqIndex_of h0 h1,e],by lia,by lia,h1⟩
  ·rw[if_neg h1] at h;cases h
 ·rw[if_neg h0] at h
  by_cases h1 : -(n:Int)<=i
  ·rw[if_pos h1] at h
   have e:(i+n).toNat=j:=U4 h
   exact⟨by rw[seqIndex_neg (by lia) h1,e],by lia,h1,by lia⟩
  ·rw[if_neg h1] at h;cases h
theorem yN {α:Type}{xs:List α}{i:Int}{v:α}(h:atI xs i=some v):∃ j,abJ i xs.length=some j/\xs[j]? = some v/\j < xs.length/\-(xs.length:Int)<=i/\i < xs.length:=by
 unfold atI at h
 cases e:ixN xs.length i with
 | none=>rw[e] at h;cases h
 | some j =>
  rw[e] at h
  obtain⟨h1,h2,h3,h4⟩:=Ea e
  exact⟨j,h1,h,h2,h3,h4⟩
theorem gZ {α:Type}{xs:List α}{j:Nat}{v:α}(h:xs[j]? = some v):atI xs (j:Int)=some v:=by
 have hj:j < xs.length:=(List.getElem?_eq_some_iff.mp h).1
 have e:ixN xs.length (j:Int)=some j:=by
  unfold ixN
  rw[if_pos (by lia),if_pos (by lia)];simp
 unfold atI;rw[e];exact h
theorem Jx {α:Type}(xs:List α)(v:α):atI (xs++[v]) (-1)=some v:=by
 have hl:(xs++[v]).length=xs.length+1:=by simp
 have e:ixN (xs++[v]).length (-1)=some xs.length:=by
  unfold ixN
  rw[hl,if_neg (by decide),if_pos (by lia)]
  congr 1
  lia
 unfold atI
 rw[e]
 show (xs++[v])[xs.length]? = some v
 simp
def tR (b:Expr):Prop:=∀ o i,abY b false o i=operate [o,i] (aa0 o i)
def IxR (X:Cx)(r:R2):Prop :=
 ∀ (value slice:Expr) (ZY:Ic) (s:TF) (σ:St) (H:Hp) (x y:V) (v u:Value) (Q:VK),Inv X ZY σ H s->RelV x v->RelV y u->r x y H Q →
  abY slice false v u=operate [v,u] (aa0 v u)->Ug (Up X.prog X.w) X.A (subscriptTail value slice v u) (EP X ZY σ Q) X.xe s
def MtR (X:Cx)(id:String)(r:V->List V->Hp->VK->Prop):Prop :=
 ∀ (ZY:Ic) (s:TF) (σ:St) (H:Hp) (x:V) (xs:List V) (v:Value) (us:IF) (Q:VK),Inv X ZY σ H s->RelV x v->Vals xs us->r x xs H Q →
  Ug (Up X.prog X.w) X.A (call (.builtin id) (v::us)) (EP X ZY σ Q) X.xe s
section
variable {X:Cx}{a b:Expr}{ta tb:TE}{pos:YM}
theorem IxR.or {r r':R2}(h:IxR X r)(h':IxR X r'):IxR X (fun x y H Q=>r x y H Q∨r' x y H Q):=by
 intro value slice ZY s σ H x y v u Q I rx ry q hs
 rcases q with q | q
 ·exact h value slice ZY s σ H x y v u Q I rx ry q hs
 ·exact h' value slice ZY s σ H x y v u Q I rx ry q hs
theorem Jk {r:R2}(hr:IxR X r)(ha:PE X a ta)(hb:PE X b tb)(hs:tR b):PE X (.Subscript a b pos) (tOp r ta tb):=by
 intro ZY s σ H Q I h
 exact Subscript_ (RJ ha hb I h fun v u s2 x y H2 I2 rx ry q=>hr a b ZY s2 σ H2 x y v u Q I2 rx ry q (hs _ _))
inductive QT (K:Ut)(x:V)(y:V)(H:Hp)(Q:VK):Prop where
 | mk (p:Addr) (xs:List V) (i:Int) (v:V) (_:x = .ref p) (_:y = .int i) (_:SqL K H p xs) (_:atI xs i=some v) (_:Q v H)
inductive Rm (K:Ut)(x:V)(y:V)(H:Hp)(Q:VK):Prop where
 | mk (p:Addr) (xs:List V) (i:Int) (v:V) (_:x = .ref p) (_:y = .int i) (_:SqT K H p xs) (_:atI xs i=some v) (_:Q v H)
def RN:R2:=fun x y H Q=>∃ z i c,x = .str z/\y = .int i/\z.length<=sizeLine/\atI z.cps.toList i=some c/\Q (.str ⟨#[c]⟩) H
theorem zM:IxR X (QT X.K):=by
 intro value slice ZY s σ H x y v u Q I rx ry h hs
 obtain⟨p,xs,i,z,rfl,rfl,hq,he,q⟩:=h
 cases rx
 obtain⟨t,rfl⟩:=ry
 obtain⟨its,r,pl,hz⟩:=I.list hq
 obtain⟨j,h1,h2,h3,h4,h5⟩:=yN he
 obtain⟨w,ew,rw'⟩:=r.get h2
 have hl:=r.length
 have hn:=sE
 have fin:EP X ZY σ Q w s:=⟨z,H,I,rw',q⟩
 by_cases h0:0<=i
 ·have hj:i.toNat=j:=by
   rw[seqIndex_of h0 h5] at h1
   exact U4 h1
  exact item_listR pl.isList h0 (by lia) (by rw[hj];simpa using ew) fin hs
 ·have hj:(i+(its.toArray.size:Int)).toNat=j:=by
   rw[seqIndex_neg (by lia) h4] at h1
   rw[Ue,← hl]
   exact U4 h1
  exact subscriptTail_builtinR (x:=w) pl.isList.typeIs slot_list_getitem.lookup
   (wpAny_getItem_list_neg (Q:=fun r s'=>r=w/\EP X ZY σ Q r s') pl.isList (by lia) (by rw[Ue] <;> lia) (by lia) (by rw[hj];simpa using ew) ⟨U,fin⟩) hs
theorem Ku:IxR X (Rm X.K):=by
 intro value slice ZY s σ H x y v u Q I rx ry h hs
 obtain⟨p,xs,i,z,rfl,rfl,hq,he,q⟩:=h
 cases rx
 obtain⟨t,rfl⟩:=ry
 obtain⟨its,r,pl,hz⟩:=I.tuple hq
 obtain⟨j,h1,h2,h3,h4,h5⟩:=yN he
 obtain⟨w,ew,rw'⟩:=r.get h2
 have hl:=r.length
 have hn:=sE
 have fin:EP X ZY σ Q w s:=⟨z,H,I,rw',q⟩
 exact subscriptTail_builtinR (x:=w) pl.typeIs slot_tuple_getitem.lookup
  (getItem_tuple (j:=j) (Q:=fun r s'=>r=w/\EP X ZY σ Q r s') pl (by lia) (by lia) (by rw[Ue,← hl];exact h1) (by simpa using ew) ⟨U,fin⟩) hs
theorem Qp:IxR X RN:=by
 intro value slice ZY s σ H x y v u Q I rx ry h hs
 obtain⟨z,i,c,rfl,rfl,hz,he,q⟩:=h
 obtain⟨t,rfl⟩:=rx
 obtain⟨t',rfl⟩:=ry
 obtain⟨j,h1,h2,h3,h4,h5⟩:=yN he
 have hl:z.cps.toList.length=z.length:=by simp [Str.length]
 rw[hl] at h1 h4 h5
 have hn:=sE
 exact tail_any (typeIs_str s z t) slot_str_getitem.lookup (getItem_str (c:=c) (by
  have e1:decide (i < -(2 ^ 63:Int))=false:=decide_eq_false (by lia)
  have e2:decide (i ≥ 2 ^ 63)=false:=decide_eq_false (by lia)
  rw[e1,e2,Bool.or_false]) (by rw[h1];simpa using h2) ⟨.str ⟨#[c]⟩,H,I.tok _,⟨_,U⟩,q⟩) hs
def rIx (K:Ut):R2:=fun x y H Q=>QT K x y H Q∨Rm K x y H Q∨RN x y H Q
theorem KJ:IxR X (rIx X.K):=zM.or (Ku.or Qp)
theorem Dl (its:IF)(n j:Nat)(u:Value):Vh (·.setIfInBounds j u) { cls:=.type "list",data:=.seq its.toArray n }={ cls:=.type "list",data:=.seq (its.set j u).toArray n }:=by
 simp [Vh]
theorem Inv.lst {ZY:Ic}{σ:St}{H:Hp}{s:TF}{p:Addr}{xs:List V}(I:Inv X ZY σ H s)(h:H p=some (.lst xs)) :
  ∃ (its:IF) (n:Nat),Vals xs its/\s.heap.get? p=some { cls:=.type "list",data:=.seq its.toArray n }/\xs.length<=sizeLine:=by
 obtain⟨z,its,n,r,e⟩:=I.hok p _ h
 exact⟨its,n,r,e,z⟩
theorem Inv.QL {ZY:Ic}{σ:St}{H:Hp}{s:TF}{p:Addr}{xs ys:List V}{its its':IF}{n n':Nat}{f:Xh->Xh}(I:Inv X ZY σ H s)(h:H p=some (.lst xs))
  (ho:s.heap.get? p=some { cls:=.type "list",data:=.seq its.toArray n }) (hf:f { cls:=.type "list",data:=.seq its.toArray n }={ cls:=.type "list",data:=.seq its'.toArray n' }) (r:Vals ys its') (hz:ys.length<=sizeLine) (t:Nat) :
  Inv X ZY σ (upd H p (.lst ys)) { s with heap:=s.heap.update p f,toks:=t }:=by
 have e:(s.heap.update p f).get? p=some { cls:=.type "list",data:=.seq its'.toArray n' }:=by
  rw[Vq f ho (by rw[hf] <;> rfl),hf]
 refine I.write (x:=p) (e:=p) (by rw[h];trivial) (.inl U) (fun b u hb q=>(Vm _ _ (Xd hb)).trans q) ⟨_,e⟩ ?_
 exact⟨hz,its',n',r,e⟩
def Rf:V->V->V->Hp->(Hp->Prop)->Prop:=fun o i v H Q=>∃ p xs k j,o = .ref p/\i = .int k/\H p=some (.lst xs)/\ixN xs.length k=some j/\Q (upd H p (.lst (xs.set j v)))
theorem set_list:R4 X Rf:=by
 intro ZY s σ H o i v ov iv u Q I ro ri rv h
 obtain⟨p,xs,k,j,rfl,rfl,hp,hj,q⟩:=h
 cases ro
 obtain⟨t,rfl⟩:=ri
 obtain⟨its,n,r,ho,hz⟩:=I.lst hp
 obtain⟨h1,h2,h3,h4⟩:=Ea hj
 have hl:=r.length
 have hn:=sE
 have I':Inv X ZY σ (upd H p (.lst (xs.set j v))) { s with heap:=s.heap.update p (Vh (·.setIfInBounds j u)) } :=
  I.QL hp ho (Dl its n j u) (r.set rv j) (by rw[Xn];exact hz) s.toks
 by_cases h0:0<=k
 ·have hk:k.toNat=j:=by
   rw[seqIndex_of h0 h4] at h1
   exact U4 h1
  exact PySem.W.ki_setAt ho h0 (by lia) (by rw[Ue,← hl];exact h4) (by rw[hk];exact⟨_,I',q⟩)
 ·have hk:(k+(its.toArray.size:Int)).toNat=j:=by
   rw[seqIndex_neg (by lia) h3] at h1
   rw[Ue,← hl]
   exact U4 h1
  exact PySem.W.ki_setBack ho (by lia) (by rw[Ue,← hl];exact h3) (by lia) (by rw[hk];exact⟨_,I',q⟩)
theorem wG (lo hi:IG)(n:Nat):(Zt lo hi none n).1=((HT.sIx n 0 lo:Nat):Int)/\(Zt lo hi none n).2.1=((HT.sIx n n hi:Nat):Int)/\(Zt lo hi none n).2.2=1:=by
 refine⟨?_,?_,U⟩
 ·cases lo with
  | none=>simp [Zt,HT.sIx]
  | some i =>
   simp only[Zt,HT.sIx,Option.getD_none,show (1:Int) > 0 by decide,if_true]
   by_cases h:i < 0
   ·simp only[h,if_true] <;> lia
   ·simp only[h,if_false] <;> lia
 ·cases hi with
  | none=>simp [Zt,HT.sIx]
  | some i =>
   simp only[Zt,HT.sIx,Option.getD_none,show (1:Int) > 0 by decide,if_true]
   by_cases h:i < 0
   ·simp only[h,if_true] <;> lia
   ·simp only[h,if_false] <;> lia
theorem vh (its:IF)(lo hi:IG):slicePick its.toArray lo hi none=((its.drop (HT.sIx its.length 0 lo)).take (HT.sIx its.length its.length hi - HT.sIx its.length 0 lo)).toArray:=by
 obtain⟨h1,h2,h3⟩:=wG lo hi its.toArray.size
 unfold slicePick
 rw[h1,h2,h3]
 simp only[sliceRange_one,pick_run,Ue] <;> rfl
inductive QX (K:Ut)(x:V)(lo:IG)(hi:IG)(H:Hp)(Q:VK):Prop where
 | mk (a:Addr) (xs:List V) (_:x = .ref a) (_:SqL K H a xs) (_:∀ p,H p=none->Q (.ref p) (upd H p (.lst (xZ xs lo hi))))
theorem yS:SlR X (QX X.K):=by
 intro ZY s σ H x v vl vu lo hi sl Q I rx hs pl pu h
 obtain⟨a,xs,rfl,hx,q⟩:=h
 cases rx
 obtain⟨its,r,ht,hz⟩:=I.list hx
 have hlen:=r.length
 refine⟨"list",_,slot_list_getitem.lookup,ht.isList.typeIs,?_⟩
 refine wpAny_getItem_list_slice ht.isList hs pl pu .none (by simp) ?_ (by rw[Ue] <;> lia)
 rw[vh,← hlen]
 refine⟨.ref s.heap.objs.size,_,I.laid (t':=s.toks) (o:=.lst (xZ xs lo hi)) (fun b ob q=>Tz _ q) (Ua _) ?_,U,q _ (I.hok.fresh (Ua _))⟩
 exact⟨Vd (qw xs lo hi) hz,_,0,(r.drop (HT.sIx xs.length 0 lo)).take (HT.sIx xs.length xs.length hi - HT.sIx xs.length 0 lo),Ub _ U⟩
def uY:V->Bool
 | .non=>true
 | .bl _=>true
 | .int _=>true
 | .str _=>true
 | _=>false
def eqV:V->V->Bool
 | .non,.non=>true
 | .bl a,.bl b=>a == b
 | .bl a,.int b=>(if a then 1 else 0) == b
 | .int a,.bl b=>a == (if b then 1 else 0)
 | .int a,.int b=>a == b
 | .str a,.str b=>a == b
 | _,_=>false
theorem PN {A:Vf}{s:TF}{y x:V}{u v:Value}(ry:RelV y u)(rx:RelV x v)(fy:uY y=true)(fx:uY x=true):SeqAt.EqAt A s u v (eqV y x):=by
 cases y with
 | non =>
  cases ry
  cases x with
  | non=>cases rx;exact SeqAt.EqAt.same _
  | bl b=>cases rx;exact SeqAt.EqAt.none_bool b
  | int b=>obtain⟨t,rfl⟩:=rx;exact SeqAt.EqAt.none_int b t
  | str b=>obtain⟨t,rfl⟩:=rx;exact SeqAt.EqAt.none_str b t
  | _=>exact absurd (show false=true from fx) Uc
 | bl a =>
  cases ry
  cases x with
  | non=>cases rx;exact SeqAt.EqAt.bool_none a
  | bl b=>cases rx;exact SeqAt.EqAt.bool_bool a b
  | int b=>obtain⟨t,rfl⟩:=rx;exact SeqAt.EqAt.bool_int a b t
  | str b=>obtain⟨t,rfl⟩:=rx;exact SeqAt.EqAt.bool_str a b t
  | _=>exact absurd (show false=true from fx) Uc
 | int a =>
  obtain⟨t',rfl⟩:=ry
  cases x with
  | non=>cases rx;exact SeqAt.EqAt.int_none a t'
  | bl b=>cases rx;exact SeqAt.EqAt.int_bool a t' b
  | int b=>obtain⟨t,rfl⟩:=rx;exact Z0 a t' b t
  | str b=>obtain⟨t,rfl⟩:=rx;exact SeqAt.EqAt.int_str a t' b t
  | _=>exact absurd (show false=true from fx) Uc
 | str a =>
  obtain⟨t',rfl⟩:=ry
  cases x with
  | non=>cases rx;exact SeqAt.EqAt.str_none a t'
  | bl b=>cases rx;exact SeqAt.EqAt.str_bool a t' b
  | int b=>obtain⟨t,rfl⟩:=rx;exact SeqAt.EqAt.str_int a t' b t
  | str b=>obtain⟨t,rfl⟩:=rx;exact SeqAt.EqAt.str_str a t' b t
  | _=>exact absurd (show false=true from fx) Uc
 | _=>exact absurd (show false=true from fy) Uc
def eqU (x:V)(u:Value):Bool:=match u with
 | .none=>eqV .non x
 | .bool b=>eqV (.bl b) x
 | .int i _=>eqV (.int i) x
 | .str z _=>eqV (.str z) x
 | _=>false
theorem Lh {x y:V}{u:Value}(r:RelV y u)(f:uY y=true):eqU x u=eqV y x:=by
 cases y with
 | non=>cases r;rfl
 | bl b=>cases r;rfl
 | int i=>obtain⟨t,rfl⟩:=r;rfl
 | str z=>obtain⟨t,rfl⟩:=r;rfl
 | _=>exact absurd (show false=true from f) Uc
theorem yQ {x:V}:∀ {xs:List V} {us:IF},Vals xs us->xs.all uY=true->us.any (eqU x)=xs.any fun y=>eqV y x
 | _,_,.nil,_=>rfl
 | y::xs,u::us,.cons r t,f=>by
  rw[Zr,Wc] at f
  rw[Yl,Yl,Lh r f.1,yQ t f.2]
theorem uM {A:Vf}{s:TF}{x:V}{v:Value}(rx:RelV x v)(fx:uY x=true):∀ {xs:List V} {us:IF},Vals xs us->xs.all uY=true->∀ u∈us,SeqAt.EqAt A s u v (eqU x u)
 | _,_,.nil,_=>fun u hu=>by cases hu
 | y::xs,u::us,.cons r t,f=>fun u' hu=>by
  rw[Zr,Wc] at f
  rcases List.mem_cons.mp hu with rfl | hu
  ·rw[Lh r f.1];exact PN r rx f.1 fx
  ·exact uM rx fx t f.2 u' hu
def inV (x:V)(xs:List V):Bool:=xs.any fun y=>eqV y x
inductive rIn (K:Ut)(neg:Bool)(x:V)(y:V)(H:Hp)(Q:VK):Prop where
 | mk (p:Addr) (xs:List V) (_:y = .ref p) (_:(SqL K H p xs∨SqT K H p xs)) (_:uY x=true) (_:xs.all uY=true) (_:Q (.bl (if neg then !inV x xs else inV x xs)) H)
theorem iJ:OpR X (Wl .In) (rIn X.K false):=by
 intro ZY s σ H x y v u Q I rx ry h
 obtain⟨p,xs,rfl,hq,fx,fs,q⟩:=h
 cases ry
 rcases hq with hq | hq
 ·obtain⟨its,r,pl,hz⟩:=I.list hq
  refine SeqAt.in_listAt (eqU x) pl.isList (fun w hw=>uM rx fx r fs w (by simpa using hw)) ⟨.bl _,H,I,U,?_⟩
  rw[show its.toArray.any (eqU x)=its.any (eqU x) by simp,yQ r fs]
  exact q
 ·obtain⟨its,r,pl,hz⟩:=I.tuple hq
  refine SeqAt.in_tupleAt (eqU x) pl (fun w hw=>uM rx fx r fs w (by simpa using hw)) ⟨.bl _,H,I,U,?_⟩
  rw[show its.toArray.any (eqU x)=its.any (eqU x) by simp,yQ r fs]
  exact q
theorem wH:iT X (.builtin "len") (fun xs H Q=>∃ p ys,xs=[.ref p]/\(SqL X.K H p ys∨SqT X.K H p ys)/\Q (.int ys.length) H):=by
 intro ZY s σ H xs us Q I r h
 obtain⟨p,ys,rfl,hq,q⟩:=h
 obtain⟨u,rfl,rx⟩:=vals1 r
 cases rx
 have hn:=sE
 rcases hq with hq | hq
 ·obtain⟨its,r',pl,hz⟩:=I.list hq
  have hlen:=r'.length
  exact Calls.call_len_list pl.isList (by simp only[Ue] <;> lia) ⟨.int ys.length,H,I.tok _,⟨s.toks+1,by rw[Ue,hlen]⟩,q⟩
 ·obtain⟨its,r',pl,hz⟩:=I.tuple hq
  have hlen:=r'.length
  exact len_tuple pl (by simp only[Ue] <;> lia) ⟨.int ys.length,H,I.tok _,⟨s.toks+1,by rw[Ue,hlen]⟩,q⟩
theorem xN:iT X (.type "list") (fun xs H Q=>∃ p ys,xs=[.ref p]/\(SqL X.K H p ys∨SqT X.K H p ys)/\∀ l,H l=none->Q (.ref l) (upd H l (.lst ys))):=by
 intro ZY s σ H xs us Q I r h
 obtain⟨p,ys,rfl,hq,q⟩:=h
 obtain⟨u,rfl,rx⟩:=vals1 r
 cases rx
 have fin:∀ (its:IF),Vals ys its->ys.length<=sizeLine->∀ (h':Vv) (c':Nat),(∀ b o',s.heap.get? b=some o'->h'.get? b=some o') →
   h'.get? s.heap.objs.size=some { cls:=.type "list",dict:=none,data:=.seq its.toArray c',slots:=#[] }->EP X ZY σ Q (.ref s.heap.objs.size) { s with heap:=h' }:=fun its r' hz h' c' kp e =>
  ⟨.ref s.heap.objs.size,_,I.laid (t':=s.toks) kp (Ua _) (show eE X.prog X.w _ h' _ (.lst ys) from ⟨hz,its,c',r',e⟩),U,q _ (I.hok.fresh (Ua _))⟩
 rcases hq with hq | hq
 ·obtain⟨its,r',pl,hz⟩:=I.list hq
  have hlen:=r'.length
  obtain⟨o,ho,hc,n,hd⟩:=pl.isList
  exact call_list_seq p (.inl U) ho hc hd (fun h' c' kp e=>fin its r' hz h' c' kp e) (by simp only[Ue] <;> lia)
 ·obtain⟨its,r',pl,hz⟩:=I.tuple hq
  have hlen:=r'.length
  obtain⟨o,ho,hc,n,hd⟩:=pl
  exact call_list_seq p (.inr U) ho hc hd (fun h' c' kp e=>fin its r' hz h' c' kp e) (by simp only[Ue] <;> lia)
theorem uZ:iT X (.type "tuple") (fun xs H Q=>∃ p ys,xs=[.ref p]/\((SqL X.K H p ys/\∀ l,H l=none->Q (.ref l) (upd H l (.tup ys)))∨(SqT X.K H p ys/\Q (.ref p) H))):=by
 intro ZY s σ H xs us Q I r h
 obtain⟨p,ys,rfl,h⟩:=h
 obtain⟨u,rfl,rx⟩:=vals1 r
 cases rx
 rcases h with⟨hq,q⟩ | ⟨hq,q⟩
 ·obtain⟨its,r',pl,hz⟩:=I.list hq
  have hlen:=r'.length
  refine call_tuple_list pl.isList (fun h' kp=>?_) (by simp only[Ue] <;> lia)
  have I1:Inv X ZY σ H { s with heap:=h' }:=I.kept (t':=s.toks) kp
  have I2:Inv X ZY σ (upd H h'.objs.size (.tup ys)) { s with heap:=h'.push { cls:=.type "tuple",data:=.seq its.toArray } } :=
   I1.laid (t':=s.toks) (fun b o e=>Tz _ e) (Ua _) (show eE X.prog X.w _ _ _ (.tup ys) from ⟨hz,its,r',IsTup.new _ _⟩)
  exact⟨.ref h'.objs.size,_,I2,U,q _ (I1.hok.fresh (Ua _))⟩
 ·obtain⟨its,r',pl,hz⟩:=I.tuple hq
  exact call_tuple_same pl ⟨.ref p,H,I,U,q⟩
def tyV (K:Ut)(T:String)(x:V)(H:Hp):Prop:=match x with
 | .str _=>T = "str"
 | .int _=>T = "int"
 | .ref p=>(T = "list"/\∃ xs,SqL K H p xs)∨(T = "tuple"/\∃ o,K.lookup p=some o/\o.cls = .type "tuple"/\o.dict=none) ∨
   (T = "dict"/\((∃ kvs,H p=some (.dK kvs))∨∃ kvs,H p=some (.dT kvs)))∨(T = "set"/\∃ S n,H p=some (.set S n))
 | _=>False
theorem Kq {ZY:Ic}{σ:St}{H:Hp}{s:TF}{T:String}{x:V}{v:Value}(I:Inv X ZY σ H s)(r:RelV x v)(ty:tyV X.K T x H) :
  s.TypeIs v T/\∀ a,v = .ref a->∃ ob,s.heap.get? a=some ob/\ob.dict=none:=by
 cases x with
 | str z =>
  obtain⟨t,rfl⟩:=r
  cases (show T = "str" from ty)
  exact⟨typeIs_str s z t,fun _ e=>nomatch e⟩
 | int i =>
  obtain⟨t,rfl⟩:=r
  cases (show T = "int" from ty)
  exact⟨ZW s i t,fun _ e=>nomatch e⟩
 | ref p =>
  cases r
  rcases ty with⟨rfl,xs,hq⟩ | ⟨rfl,o,hk,hc,hd⟩ | ⟨rfl,hk⟩ | ⟨rfl,S,n,hk⟩
  ·obtain⟨its,_,pl,_⟩:=I.list hq
   refine⟨pl.isList.typeIs,fun a e=>?_⟩
   cases e
   obtain⟨o,n,e,c,hd,_⟩:=pl
   exact⟨o,e,hd⟩
  ·refine⟨⟨o,I.kIn p o hk,hc⟩,fun a e=>?_⟩
   cases e
   exact⟨o,I.kIn _ o hk,hd⟩
  ·have z:∃ o,s.heap.get? p=some o/\o.ExactDict:=by
    rcases hk with⟨kvs,hk⟩ | ⟨kvs,hk⟩
    ·obtain⟨_,_,_,_,o,_,_,e,ex,_⟩:=I.hok p _ hk
     exact⟨o,e,ex⟩
    ·obtain⟨_,_,_,_,o,_,_,e,ex,_⟩:=I.hok p _ hk
     exact⟨o,e,ex⟩
   obtain⟨o,e,ex⟩:=z
   refine⟨⟨o,e,ex.1⟩,fun a e2=>?_⟩
   cases e2
   exact⟨o,e,ex.2.1⟩
  ·obtain⟨o,_,_,_,e,ex,_⟩:=I.hok p _ hk
   refine⟨⟨o,e,ex.1⟩,fun a e2=>?_⟩
   cases e2
   exact⟨o,e,ex.2.1⟩
 | _=>exact Yv ty
def Tu (K:Ut)(T:String)(r:V->List V->Hp->VK->Prop)(to:TE):TE:=fun σ H Q=>to σ H fun x H1=>tyV K T x H1/\r x [] H1 Q
def tBM (K:Ut)(T:String)(r:V->List V->Hp->VK->Prop)(to:TE)(t:TA):TE:=fun σ H Q=>to σ H fun x H1=>tyV K T x H1/\t σ H1 fun xs H2=>r x xs H2 Q
variable {o e:Expr}{es:IJ}{to:TE}{t:TA}{name:VM}{apos cpos:YM}{T id:String}{r:V->List V->Hp->VK->Prop}
theorem Ez (pa:PlainAttrs T) (slot:Slot T name id) (hty:typeOf (.builtin id)=pure (.type "method_descriptor")) (hm:MtR X id r) (ho:PE X o to)
  (hbase:attributeBase o name X.env (W8 o X.env)=W8 o X.env:=by rfl) (hline:(apos.endLine == cpos.line)=true:=by rfl):PE X (.Call (.Attribute o name apos) [] [] cpos) (Tu X.K T r to):=by
 intro ZY s σ H Q I h
 refine wpAny_Call_method0_late hbase hline (thn (ho ZY s σ H _ I h) fun v s1 ⟨x,H1,I1,r1,ty,q1⟩=>?_)
 obtain⟨h1,h2⟩:=Kq I1 r1 ty
 exact⟨T,id,pa,slot,hty,h1,h2,Calls.callWith_builtin U (PySem.evalArgs_none (hm ZY s1 σ H1 x [] v [] Q I1 r1 .nil q1))⟩
theorem jF (pa:PlainAttrs T) (slot:Slot T name id) (hty:typeOf (.builtin id)=pure (.type "method_descriptor")) (hm:MtR X id r) (ho:PE X o to) (ha:PA X (e::es) t)
  (hbase:attributeBase o name X.env (W8 o X.env)=W8 o X.env:=by rfl)
  (hfew:((Zj cpos (U9 (e::es) X.env)).all (fun x=>!x.1) && (backToKw cpos (keywordEach [] X.env)).all (fun x=>x.1.isSome)
   && decide ((e::es).length+([]:List Keyword).length+(if ([]:List Keyword).isEmpty then 0 else 1) < 30))=true:=by rfl)
  (hline:(apos.endLine == cpos.line)=true:=by rfl) (hs:U9 (e::es) X.env=(false,W8 e X.env)::U9 es X.env:=by rfl) (hplain:(Zj cpos (U9 es X.env)).any (·.1)=false:=by rfl) :
  PE X (.Call (.Attribute o name apos) (e::es) [] cpos) (tBM X.K T r to t):=by
 intro ZY s σ H Q I h
 refine wpAny_Call_method_late hbase hfew hline U (thn (ho ZY s σ H _ I h) fun v s1 ⟨x,H1,I1,r1,ty,q1⟩=>?_)
 obtain⟨h1,h2⟩:=Kq I1 r1 ty
 refine⟨T,id,pa,slot,hty,h1,h2,?_⟩
 have hA:=ha cpos ZY s1 σ H1 _ I1 q1
 rw[hs] at hA ⊢
 refine Calls.callWith_builtin (by show (false || (Zj cpos (U9 es X.env)).any (·.1))=false;rw[hplain] <;> rfl) (Calls.evalArgs_plain ?_)
 exact thn hA fun us s2 ⟨vs,H2,I2,r2,q2⟩=>hm ZY s2 σ H2 x vs v us Q I2 r1 r2 q2
/- xs.append(e),list.index on a module's tuple .. are MtR facts of 06m -/
end
def MtM (X:Cx)(id:String)(r:V->List V->Hp->VK->Prop):Prop :=
 ∀ (ZY:Ic) (s:TF) (σ:St) (H:Hp) (x:V) (xs:List V) (v:Value) (us:IF) (Q:VK),Inv X ZY σ H s->RelV x v->Vals xs us->r x xs H Q →
  Ug (Up X.prog X.w) X.A (call (.builtin id) (v::us)) (EP X ZY σ Q) X.xe s
theorem Vals.one:∀ {x:V} {us:IF},Vals [x] us->∃ u,us=[u]/\RelV x u
 | _,_,.cons r .nil=>⟨_,U,r⟩
theorem Vals.two:∀ {x y:V} {us:IF},Vals [x,y] us->∃ u v,us=[u,v]/\RelV x u/\RelV y v
 | _,_,_,.cons r (.cons q .nil)=>⟨_,_,U,r,q⟩
theorem Vals.zero:∀ {us:IF},Vals [] us->us=[]
 | _,.nil=>rfl
theorem Vals.dropLast {xs:List V}{us:IF}(h:Vals xs us):Vals xs.dropLast us.dropLast:=by
 induction h with
 | nil=>exact .nil
 | cons r t ih =>
  cases t with
  | nil=>exact .nil
  | cons q t'=>exact .cons r ih
theorem Vals.eraseIdx:∀ {xs:List V} {us:IF} (i:Nat),Vals xs us->Vals (xs.eraseIdx i) (us.eraseIdx i)
 | _,_,_,.nil=>.nil
 | _,_,0,.cons _ t=>t
 | _,_,i+1,.cons r t=>.cons r (Vals.eraseIdx i t)
theorem Vals.reverse {xs:List V}{us:IF}(h:Vals xs us):Vals xs.reverse us.reverse:=by
 induction h with
 | nil=>exact .nil
 | cons r t ih=>rw[aad,aad];exact Vals.append ih (.cons r .nil)
theorem Vals.rep {xs:List V}{us:IF}(h:Vals xs us):∀ k:Nat,Vals (Ur k xs).flatten (Ur k us).flatten
 | 0=>.nil
 | k+1=>by
  rw[WR,WR,Zc,Zc]
  exact Vals.append h (Vals.rep h k)
theorem CJ {α:Type}(l:List α):l.eraseIdx (l.length - 1)=l.dropLast:=by
 induction l with
 | nil=>rfl
 | cons a r ih =>
  cases r with
  | nil=>rfl
  | cons b r =>
   have e:(a::b::r).length - 1=((b::r).length - 1)+1:=by
    have h1:(a::b::r).length=r.length+2:=rfl
    have h2:(b::r).length=r.length+1:=rfl
    lia
   rw[e,List.eraseIdx_cons_succ,ih]
   all_goals rfl
theorem wM {α:Type}:∀ (l:List α) (i:Nat),(l.eraseIdx i).length<=l.length
 | [],_=>Ua _
 | _::_,0=>WT _
 | _::r,i+1=>abO (wM r i)
theorem foldl_rep (its:IF):∀ (k:Nat) (acc:IF),
  YZ (fun x1 x2=>x1++x2) acc.toArray (Ur k its.toArray)=(acc++(Ur k its).flatten).toArray
 | 0,acc=>by simp
 | k+1,acc=>by
  have e:acc.toArray++its.toArray=(acc++its).toArray:=by simp
  have e2:(acc++its)++(Ur k its).flatten=acc++(Ur (k+1) its).flatten:=by
   rw[WR,Zc,Wk]
  rw[← e2,← foldl_rep its k (acc++its),← e,WR,Vw]
section
variable {X:Cx}{ZY:Ic}{σ:St}{H:Hp}{s:TF}{l b:Addr}{xs ys zs:List V}
theorem Inv.Qf {its its':IF}{n:Nat}{f:Array Value->Array Value}{t':Nat}(I:Inv X ZY σ H s)(hH:H l=some (.lst xs))
  (e:s.heap.get? l=some { cls:=.type "list",data:=.seq its.toArray n }) (hf:f its.toArray=its'.toArray) (hv:Vals ys its') (hz:ys.length<=sizeLine) :
  Inv X ZY σ (upd H l (.lst ys)) { s with heap:=s.heap.update l (Vh f),toks:=t' }:=by
 have q:=PySem.IsL.update e f
 rw[hf] at q
 refine I.write (x:=l) (e:=l) (by rw[hH];exact trivial) (.inl U) (fun b' u hb hu=>(Vm s.heap (Vh f) (Xd hb)).trans hu) ⟨_,q⟩ ?_
 exact⟨hz,its',_,hv,q⟩
theorem Inv.QW {its:IF}{t':Nat}(I:Inv X ZY σ H s)(hv:Vals ys its)(hz:ys.length<=sizeLine) :
  Inv X ZY σ (upd H s.heap.objs.size (.lst ys)) { s with heap:=s.heap.push { cls:=.type "list",data:=.seq its.toArray },toks:=t' } :=
 I.laid (fun _ _ q=>Tz _ q) (Ua _) ⟨hz,its,0,hv,Ub _ U⟩
theorem Inv.fresh (I:Inv X ZY σ H s):H s.heap.objs.size=none:=I.hok.fresh (Ua _)
theorem Inv.K3 (I:Inv X ZY σ H s)(hH:H l=some (.lst xs)):xs.length<=sizeLine/\∃ (its:IF) (n:Nat),Vals xs its/\xs.length=its.length/\s.heap.get? l=some { cls:=.type "list",data:=.seq its.toArray n }:=by
 obtain⟨z,its,n,r,e⟩:=I.hok l _ hH
 exact⟨z,its,n,r,r.length,e⟩
theorem Jd {n:Nat}(h:n<=sizeLine):aam n=false:=by
 unfold aam
 exact decide_eq_false (by lia)
end
section
variable {X:Cx}
inductive NT (x:V)(vs:List V)(H:Hp)(Q:VK):Prop where
 | mk (l:Addr) (xs:List V) (y:V) (_:x = .ref l) (_:vs=[y]) (_:H l=some (.lst xs)) (_:xs.length < sizeLine) (_:Q .non (upd H l (.lst (xs++[y]))))
theorem bI:MtM X "list.append" NT:=by
 intro ZY s σ H x vs v us Q I rx rv h
 obtain⟨l,xs,y,rfl,rfl,hH,hz,q⟩:=h
 cases rx
 obtain⟨u,rfl,ru⟩:=rv.one
 obtain⟨z,its,n,r,hl,e⟩:=I.K3 hH
 refine XD F.slot_list_append ⟨_,e,U⟩ F.entry_list_append (F.args_list_append_2 _ _) (PySem.list_append l its.toArray n u (by rw[Ue];lia)) ⟨e,?_⟩
 refine⟨.non,_,I.Qf (its':=its++[u]) hH e (by simp) (r.append (.cons ru .nil)) ?_,U,q⟩
 rw[Uh,List.length_singleton]
 lia
def Sq:V->List V->Hp->VK->Prop:=fun x vs H Q=>∃ l xs y,x = .ref l/\vs=[]/\H l=some (.lst xs)/\xs[xs.length - 1]? = some y/\Q y (upd H l (.lst xs.dropLast))
theorem Qs:MtM X "list.pop" Sq:=by
 intro ZY s σ H x vs v us Q I rx rv h
 obtain⟨l,xs,y,rfl,rfl,hH,hy,q⟩:=h
 cases rx
 have hus:=rv.zero
 subst hus
 obtain⟨z,its,n,r,hl,e⟩:=I.K3 hH
 obtain⟨u,hu,ru⟩:=r.get hy
 have hy':its.toArray[its.toArray.size - 1]? = some u:=by
  show its.toArray[its.length - 1]? = some u
  rw[← Vk,← hl]
  exact hu
 refine XD F.slot_list_pop ⟨_,e,U⟩ F.entry_list_pop (F.args_list_pop_1 _) (MeetsSeq.list_pop_last l its.toArray n u hy' (by rw[Ue];lia)) ⟨e,?_⟩
 refine⟨y,_,I.Qf (its':=its.dropLast) hH e ?_ r.dropLast ?_,ru,q⟩
 ·show its.toArray.eraseIdxIfInBounds (its.toArray.size - 1)=its.dropLast.toArray
  rw[Ue,abG,CJ]
 ·rw[List.length_dropLast]
  lia
def Ff:V->List V->Hp->VK->Prop:=fun x vs H Q=>∃ l xs i k y,x = .ref l/\vs=[.int i]/\H l=some (.lst xs)/\-(2 ^ 63)<=i/\i < 2 ^ 63/\abJ i xs.length=some k/\xs[k]? = some y/\Q y (upd H l (.lst (xs.eraseIdx k)))
theorem BP:MtM X "list.pop" Ff:=by
 intro ZY s σ H x vs v us Q I rx rv h
 obtain⟨l,xs,i,k,y,rfl,rfl,hH,h1,h2,hk,hy,q⟩:=h
 cases rx
 obtain⟨u,rfl,ru⟩:=rv.one
 obtain⟨t,rfl⟩:=ru
 obtain⟨z,its,n,r,hl,e⟩:=I.K3 hH
 obtain⟨w,hw,rw'⟩:=r.get hy
 refine XD F.slot_list_pop ⟨_,e,U⟩ F.entry_list_pop (F.args_list_pop_2 _ _)
  (MeetsSeq.list_pop_at l its.toArray n i t k w (fitsIndex_both h1 h2) (by rw[Ue,← hl];exact hk) (by rw[← Vk];exact hw) (by rw[Ue];lia)) ⟨e,?_⟩
 refine⟨y,_,I.Qf (its':=its.eraseIdx k) hH e ?_ (r.eraseIdx k) ?_,rw',q⟩
 ·show its.toArray.eraseIdxIfInBounds k=(its.eraseIdx k).toArray
  rw[abG]
 ·have:=wM xs k
  lia
def Je:V->List V->Hp->VK->Prop:=fun x vs H Q=>∃ l xs,x = .ref l/\vs=[]/\H l=some (.lst xs)/\Q .non (upd H l (.lst xs.reverse))
theorem sX:MtM X "list.reverse" Je:=by
 intro ZY s σ H x vs v us Q I rx rv h
 obtain⟨l,xs,rfl,rfl,hH,q⟩:=h
 cases rx
 have hus:=rv.zero
 subst hus
 obtain⟨z,its,n,r,hl,e⟩:=I.K3 hH
 refine XD F.slot_list_reverse ⟨_,e,U⟩ F.entry_list_reverse (F.args_list_reverse_1 _) (AutoSeq1.list_reverse_list_0 l its.toArray n (by rw[Ue];lia)) ⟨e,?_⟩
 refine⟨.non,_,I.Qf (its':=its.reverse) hH e (by simp) r.reverse ?_,U,q⟩
 rw[List.length_reverse]
 lia
inductive Ra (x:V)(y:V)(H:Hp)(Q:VK):Prop where
 | mk (l:Addr) (b:Addr) (xs:List V) (zs:List V) (_:x = .ref l) (_:y = .ref b) (_:H l=some (.lst xs)) (_:H b=some (.lst zs)) (_:xs.length+zs.length<=sizeLine) (_:∀ p,H p=none->Q (.ref p) (upd H p (.lst (xs++zs))))
theorem lX:OpR X (Yq .Add) Ra:=by
 intro ZY s σ H x y v u Q I rx ry h
 obtain⟨l,b,xs,zs,rfl,rfl,hH,hB,hz,q⟩:=h
 cases rx
 cases ry
 obtain⟨z,its,n,r,hl,e⟩:=I.K3 hH
 obtain⟨z2,its2,n2,r2,hl2,e2⟩:=I.K3 hB
 refine PySem.P.add_list e e2 ?_ (by rw[Ue,Ue];lia)
 have ea:its.toArray++its2.toArray=(its++its2).toArray:=by simp
 rw[ea]
 exact⟨.ref _,_,I.QW (t':=s.toks) (r.append r2) (by rw[Uh];lia),U,q _ I.fresh⟩
def Tp:R2:=fun x y H Q=>∃ l k xs,x = .ref l/\y = .int k/\H l=some (.lst xs)/\-(2 ^ 63)<=k/\k < 2 ^ 63/\xs.length * k.toNat<=sizeLine ∧
 ∀ p,H p=none->Q (.ref p) (upd H p (.lst (Ur k.toNat xs).flatten))
theorem len_rep {α:Type}(xs:List α)(k:Nat):(Ur k xs).flatten.length=k * xs.length:=by
 induction k with
 | zero=>simp
 | succ k ih=>rw[WR,Zc,Uh,ih,Nat.succ_mul,Nat.add_comm]
theorem Pb:OpR X (Yq .Mult) Tp:=by
 intro ZY s σ H x y v u Q I rx ry h
 obtain⟨l,k,xs,rfl,rfl,hH,h1,h2,hz,q⟩:=h
 cases rx
 obtain⟨t,rfl⟩:=ry
 obtain⟨z,its,n,r,hl,e⟩:=I.K3 hH
 have hlen:its.toArray.size * k.toNat<=sizeLine:=by rw[Ue,← hl];exact hz
 have hcap:¬ its.toArray.size * k.toNat > (2 ^ 63 - 1) / 8:=by
  have:(sizeLine:Nat)<=(2 ^ 63 - 1) / 8:=by decide
  lia
 have hfit:¬ (!Builtin.List.listFitsIndex k)=true:=by
  rw[fitsIndex_both h1 h2]
  exact Uc
 have hlong:¬ aam (its.toArray.size * k.toNat)=true:=by
  rw[Jd hlen]
  exact Uc
 have hnew:YZ (fun x1 x2=>x1++x2) #[] (Ur (if its.toArray.isEmpty=true then 0 else k.toNat) its.toArray)=(Ur k.toNat its).flatten.toArray:=by
  have f0:∀ m:Nat,YZ (fun x1 x2=>x1++x2) #[] (Ur m its.toArray)=(Ur m its).flatten.toArray:=fun m=>by
   have:=foldl_rep its m []
   rw[ZC] at this
   exact this
  rw[f0]
  cases its with
  | nil=>simp
  | cons a r'=>rw[if_neg (by simp)]
 refine Z3 (T:="list") (U:="int") (by decide) ⟨_,e,U⟩ (fun s'=>ZW s' k t) noFill_list_mul ab7 YT repeat_list F.slot_int_index.lookup
  (XD YT (ZW s k t) abU (abE _ _) (int___rmul___int_list k t l its.toArray n)
   ⟨e,U,⟨_,e,U⟩,XD F.slot_list_mul ⟨_,e,U⟩ F.entry_list_mul (F.args_list_mul_2 _ _) (AutoListH.list___mul___list_int_3 l its.toArray n k t hfit hcap hlong) ⟨e,?_⟩⟩)
 rw[hnew]
 exact⟨.ref _,_,I.QW (t':=s.toks) (r.rep k.toNat) (by rw[len_rep,Nat.mul_comm];exact hz),U,q _ I.fresh⟩
end
section
variable {prog:Uy}{w:Ve}{A:Vf}{E:Ix}{s:TF}
set_option maxRecDepth 100000 in
end
section
variable {X:Cx}
end
end L2
namespace Att
open PySem PySem.W PySem.Calls PyProof.Rows
theorem qL {P:Params}{h:Vv}:∀ (ns:IN) (vs:IF),WellAll P h vs (ns.map WData.int)->Vn vs ns:=by
 intro ns
 induction ns with
 | nil =>
  intro vs w
  rw[ZQ] at w
  cases w
  exact .nil
 | cons n ns ih =>
  intro vs w
  rw[U6] at w
  cases w with
  | cons a b =>
   cases a
   exact .cons _ _ (ih _ b)
theorem Ib {l:OpenLaw}{n:Nat}(hn:l.most=some n){P:Params}{h:Vv}{args:List WData}{vals:IF}
  (hpre:l.row.toRowW.claim.pre args=true) (hwl:WellAll P h vals args) :
  ∃ a vs ns,vals=[U5 a]/\args=[WData.list (ns.map WData.int)]/\h.get? a=some { cls:=.type "list",data:=.seq vs.toArray }/\Vn vs ns/\ns.length<=n:=by
 have hsh:WShape.hasAll [] args [.list .int]=true:=(pre_splitW hpre).1
 have hc:l.pre.holds [] { args:=args }=true:=(pre_splitW hpre).2
 obtain⟨d,r,rfl,h1,h2⟩:=hasAllW_cons hsh
 obtain rfl:=hasAllW_nil h2
 obtain⟨xs,rfl,h3⟩:=hasW_list h1
 obtain⟨ns,rfl⟩:=items_int h3
 have hlen:ns.length<=n:=by
  unfold OpenLaw.pre at hc
  have h4:(WTm.not (.lt (.lit (.int (n:Int))) (.len (.arg 0)))).holds [] { args:=[.list (ns.map .int)] }=true:=by
   have h4:=(holds_andW hc).1
   rw[hn] at h4
   exact h4
  have h5:=condW_of h4 (w_not (w_lt w_lit (w_len_list (w_arg U))))
  rw[Tw] at h5
  refine Nat.le_of_not_lt fun q=>?_
  have q':(n:Int) < ((ns.length:Nat):Int):=by lia
  first
   | (rw[decide_eq_true q'] at h5;exact absurd h5 (by decide))
   | (simp at h5;lia)
 cases hwl with
 | cons w1 w2 =>
  cases w2
  cases w1 with
  | list ho hall=>exact⟨_,_,ns,U,U,ho,qL ns _ hall,hlen⟩
theorem FP (l:OpenLaw)(args:List WData):l.row.toRowW.claim.post args (.bool true) args=true :=
 postW_of (r:=l.row.toRowW) (X:=(true == true))
  (show WShape.has [] (.bool true) .bool=true by first | rfl | decide | simp [WShape.has,WShape.arms,WShape.armsAll])
  (show (WTm.eq .res (.lit (.bool true))).value [] { args:=args,res:=some (.bool true),after:=args }=some (.bool (true == true)) from w_eq_bool (w_res U) w_lit) U
theorem zr {l:OpenLaw}{n:Nat}{q:Uy}{loose:IR}{XP:(VM->IC)->Vv->Prop}{YP:Ve->Vv->Prop}{d:DefRec}
  (hn:l.most=some n) (hdf:d.params.defaults=[])
  (call:∀ (w:Ve) (s₀ s₁:TF) (mg mb:VM->IC) (fa:Addr) (o:Xh) (pm cd doc:Value) (a:Addr) (vs:IF) (ns:IN),
   Ground q loose [] XP w s₀ mg mb s₁.heap->YP w s₁.heap →
   s₁.heap.get? fa=some o->o.data = .func (docDef d.name d.params d.body d.scope pm cd doc)->s₁.heap.CodeRec cd d.name->mg d.name=some (.ref fa) →
   s₁.heap.get? a=some { cls:=.type "list",data:=.seq vs.toArray }->Vn vs ns->ns.length<=n->s₁.gens = #[] →
   WL (Up l.prog w) abo (.call (.ref fa) ⟨[.ref a],[]⟩) (fun r s'=>r = .ok (.ret (.bool true))/\OldK s₁.heap s'.heap/\s'.os=s₁.os/\aaC s'.gens) s₁) :
  WalkO q loose XP YP l.row.toRowW d [] (fun f vs=>PySem.call f vs):=by
 intro w s₀ s₁ mg mb G Y fa o pm cd doc dV kV ho hd hcd hD hmg hg args vals as hpre hlay hrd hwl hlo
 obtain rfl:dV = .none:=Dflts.none hD hdf
 obtain rfl:kV = .none:=Dflts.noKw hD
 obtain⟨a,vs,ns,rfl,rfl,hobj,hints,hlen⟩:=Ib hn hpre hwl
 refine enter_call (ZP (call w s₀ s₁ mg mb fa o pm cd doc a vs ns G Y ho (fd_plain hd) hcd hmg hobj hints hlen hg) fun r s' hq=>?_)
 obtain⟨rfl,h2,h3,h4⟩:=hq
 exact⟨.inl ⟨.bool true,.bool true,[],U,fun _=>U,.bool true,FP l _,fun _=>⟨Ze,fun _ hm=>(nomatch hm)⟩⟩,h2,h3,h4⟩
section
variable {prog:Uy}{w:Ve}{A:Vf}{E:Ix}{s:TF}{K:Frag}
end
end Att
namespace L2
open PySem PySem.Spec PyProof.Rows
theorem mH:∀ {vs:IF} {ns:IN},Vn vs ns->Vals (ns.map V.int) vs
 | _,_,.nil=>.nil
 | _,_,.cons n t h=>.cons ⟨t,U⟩ (mH h)
def Only (H:Hp):Prop:=∀ b,H b=none∨∃ o xs,H b=some (.frz o (.lst xs))
theorem Ip {P:Uy}{w:Ve}{K:Ut}{mg mb:VM->IC}{CX:CXT}{k:Nat}{fa a:Addr}{fd:Yi}{x:VM}{sp:Sp}{s₁:TF}{vs:IF}{ns:IN}
  (KX:K.In s₁.heap) (hns:s₁.heap.Ns U8 mg) (hb:s₁.heap.Ns builtinsNs mb) (hbb:∀ x:VM,x≠"__name__"->mb x=VF x) (hlim:s₁.heap.NoLimit) (hg:s₁.gens = #[])
  (ha:s₁.heap.get? a=some { cls:=.type "list",data:=.seq vs.toArray }) (hi:Vn vs ns) (hl:ns.length<=sizeLine) (hr:rm k abo)
  (F:∀ base:Vv,K.In base->base.Ns U8 mg->dF P w K mg base CX k fa fd [x] sp) (hbind:∀ (s:TF) (u:Value),aa1 s fd ⟨[u],[]⟩ [(x,u)])
  (hsp:∀ H:Hp,Only H->SqL K H a (ns.map V.int)->sp [.ref a] H (fun v _=>v = .bl true) fun _ _ _=>False)
  (hCX:∀ H e s',CX [] H s₁ (fun _ _ _=>False) e s'->False) :
  WL (Up P w) abo (.call (.ref fa) ⟨[.ref a],[]⟩) (fun r s'=>r = .ok (.ret (.bool true))/\OldK s₁.heap s'.heap/\s'.os=s₁.os/\aaC s'.gens) s₁:=by
 have rv:=mH hi
 have lenV:=hi.length
 have core:∀ H:Hp,Only H->SqL K H a (ns.map V.int)->HOk P w H s₁.heap->(∀ b,H b≠none->b=a)->(H a≠none->K.lookup a=none) →
   WL (Up P w) abo (.call (.ref fa) ⟨[.ref a],[]⟩) (fun r s'=>r = .ok (.ret (.bool true))/\OldK s₁.heap s'.heap/\s'.os=s₁.os/\aaC s'.gens) s₁:=by
  intro H hO hS hok hA hK
  have base_of:∀ {b:Addr} {o:Xh},s₁.heap.get? b=some o->H b=none->(Jb s₁.heap H).get? b=some o:=fun e n=>Kl e n
  have noA:∀ {b:Addr} {o:Xh} {es:Array DictEntry} {ep:Nat},s₁.heap.get? b=some o->o.data = .dict es ep->H b=none:=fun {b o es ep} e d=>by
   cases q:H b with
   | none=>rfl
   | some u =>
    have e':b=a:=hA b (by rw[q];simp)
    subst e'
    rw[ha] at e;cases e
    have d':Data.seq vs.toArray _=Data.dict es ep:=d
    cases d'
  have nsK:∀ {b:Addr} {m:VM->IC},s₁.heap.Ns b m->(Jb s₁.heap H).Ns b m:=fun {b m} ⟨o,es,ep,e,d,r⟩=>⟨o,es,ep,base_of e (noA e d),d,r⟩
  have hKb:K.In (Jb s₁.heap H):=fun b o e=>base_of (KX b o e) (by
   cases q:H b with
   | none=>rfl
   | some u =>
    have e':b=a:=hA b (by rw[q];simp)
    subst e'
    rw[hK (by rw[q];simp)] at e;cases e)
  have hM:Mod K mg (Jb s₁.heap H):=⟨hKb,nsK hns,⟨mb,nsK hb,hbb⟩,let ⟨mc,h1,h2⟩:=hlim;⟨mc,nsK h1,h2⟩⟩
  have e0:QZ P w K mg (Jb s₁.heap H) abo [] s₁ H:=⟨U,hM,fun b o e=>N6 e,Nat.le_of_eq (Gv _ _),trivial,fun b hb=>absurd (show b∈([]:II) from hb) (by simp),hok,.of_eq hg⟩
  refine ZP ((F _ hKb (nsK hns)).run abo [] s₁ H ⟨[.ref a],[]⟩ [.ref a] [.ref a] _ _ hr e0 (hbind s₁ (.ref a)) (.cons U .nil) (hsp H hO hS)) fun r s' h=>?_
  cases r with
  | error e=>exact (hCX H e s' h).elim
  | ok fl =>
   cases fl with
   | next=>exact Yv h
   | brk=>exact Yv h
   | cont=>exact Yv h
   | ret u =>
    obtain⟨v,H',os,bare,un,hok',r',q⟩:=h
    have q':v = .bl true:=q
    subst q'
    obtain rfl:u=aaw true:=r'
    refine⟨U,OldK.of_keep fun b o e=>?_,os,bare⟩
    cases q:H b with
    | none=>exact un.keep b o e q (by intro z;exact absurd (show b∈([]:II) from z) (by simp)) (by simp)
    | some u =>
     rcases hO b with z | ⟨ob,xs,z⟩
     ·rw[q] at z;cases z
     ·have z2:=un.frzs b ob _ z
      obtain⟨e1,_⟩:=hok b _ z
      obtain⟨e2,_⟩:=hok' b _ z2
      rw[e] at e1;cases e1
      exact e2
 cases hk:K.lookup a with
 | some o =>
  have e:=KX a o hk
  rw[ha] at e
  cases e
  refine core (fun _=>none) (fun _=>.inl U) (.inr ⟨_,vs.toArray,_,hk,U,U,U,by rw[Ue,lenV];exact hl,by simpa using rv⟩) (fun b u z=>by have z':(none:Option HO)=some u:=z;cases z') (fun b z=>absurd rfl z) fun z=>absurd rfl z
 | none =>
  refine core (fun b=>if b=a then some (.frz { cls:=.type "list",data:=.seq vs.toArray } (.lst (ns.map V.int))) else none) (fun b=>?_) (.inl (.inr ⟨{ cls:=.type "list",data:=.seq vs.toArray },if_pos U⟩)) (fun b u z=>?_) (fun b z=>?_) fun _=>hk
  ·by_cases hb:b=a
   ·exact .inr ⟨_,_,if_pos hb⟩
   ·exact .inl (if_neg hb)
  ·by_cases hb:b=a
   ·have z':=(if_pos hb).symm.trans z
    cases z'
    subst hb
    exact⟨ha,by rw[Tw];exact hl,vs,_,rv,ha⟩
   ·have z':=(if_neg hb).symm.trans z
    cases z'
  ·by_cases hb:b=a
   ·exact hb
   ·exact absurd (if_neg hb) z
theorem Nj {l:PySem.W.OpenLaw}{n k:Nat}{q:Uy}{loose:IR}{XP:(VM->IC)->Vv->Prop}{YP:Ve->Vv->Prop}{d:DefRec}{K:Params->Ut}{CX:Ve->CXT}{sp:Ve->Sp}{x:VM}
  (hn:l.most=some n) (hn2:n<=sizeLine) (hdf:d.params.defaults=[]) (hr:rm k abo)
  (hY:∀ (w:Ve) (h:Vv),YP w h->(K w.params).In h)
  (F:∀ (w:Ve) (mg:VM->IC) (fa:Addr) (h:Vv),(K w.params).In h->h.Ns U8 mg->mg d.name=some (.ref fa) →
   ∃ fd:Yi,(∀ (s:TF) (u:Value),aa1 s fd ⟨[u],[]⟩ [(x,u)]) ∧
    ∀ base:Vv,(K w.params).In base->base.Ns U8 mg->dF l.prog w (K w.params) mg base (CX w) k fa fd [x] (sp w))
  (hsp:∀ (w:Ve) (H:Hp) (a:Addr) (ns:IN),ns.length<=n->Only H->SqL (K w.params) H a (ns.map V.int)->sp w [.ref a] H (fun v _=>v = .bl true) fun _ _ _=>False)
  (hCX:∀ (w:Ve) (H:Hp) (s:TF) (e:Value) (s':TF),CX w [] H s (fun _ _ _=>False) e s'->False) :
  PySem.W.WalkO q loose XP YP l.row.toRowW d [] (fun f vs=>PySem.call f vs):=by
 refine Att.zr hn hdf fun w s₀ s₁ mg mb fa o pm cd doc a vs ns G Y ho hd hcd hmg hobj hints hlen hg=>?_
 have KX:=hY w _ Y
 obtain⟨fd,hb,hF⟩:=F w mg fa _ KX G.T.g hmg
 exact Ip KX G.T.g G.T.b G.T.builtins G.T.nolimit hg hobj hints (Vd hlen hn2) hr hF hb (fun H hO hS=>hsp w H a ns hlen hO hS) fun H e s'=>hCX w H s₁ e s'
def gA (s:Stmt):Arguments:=match s with
 | .FunctionDef _ a _ _ _ _ _ _ _ _=>a
 | _=>{ posonlyargs:=[],args:=[],vararg:=none,kwonlyargs:=[],kw_defaults:=[],kwarg:=none,defaults:=[] }
def eN (s:Stmt):IL:=match s with
 | .FunctionDef _ _ b _ _ _ _ _ _ _=>b
 | _=>[]
def aD (s:Stmt):Yz:=match s with
 | .FunctionDef _ _ _ _ _ _ sc _ _ _=>sc
 | _=>{ kind:=.function,names:=[],isGenerator:=false,isCoroutine:=false }
abbrev CX0:CXT:=fun _ _ _ _ _ _=>False
abbrev E0:XK:=fun _ _ _=>False
theorem Q4 {X:Cx}:Passes CX0 X E0:=fun _ _ _ _ _ _ _ h=>h.elim
structure Fun (K:Ut)(x qual:VM)(st:Stmt)(f:Addr)(fd:Yi):Prop where
 ex:∃ (oc:Value) (od:ID) (kV doc pm:Value) (an:ID) (cdv ct:Value) (osl:Array (IC)),
  fd=Y9 x qual (gA st) (eN st) (aD st) .none kV doc pm an cdv ct/\K.lookup f=some ⟨oc,od,.func fd,osl⟩/\aaV K cdv qual=true
 kp:Z1 K (.ref f)=true
section
variable {P:Uy}{w:Ve}{K:Ut}{mg:VM->Option Value}{base:Vv}
theorem Fun.ok {x qual:VM}{st:Stmt}{f:Addr}{fd:Yi}{N ps:IR}{k:Nat}{sp:Sp}(F:Fun K x qual st f fd)(S:aK N ps (aD st))(len:∀ vs H Q E,sp vs H Q E->vs.length=ps.length)
  (hbody:∀ (cdv:Value) (A:Vf) (outer:IM) (s:TF) (H:Hp) (vs:List V) (Q:VK) (E:XK),rm k (A.deeper (envOfC qual (aD st) s.heap.objs.size f cdv))->sp vs H Q E →
   ∃ t,PSs (M8 CX0 P w K mg base N qual (aD st) f cdv A outer s H E).nox (eN st) t/\t { nx:=fun _ H'=>Q .non H',rt:=Q } (start N vs) H):dF P w K mg base CX0 (k+1) f fd ps sp:=by
 obtain⟨oc,od,kV,doc,pm,an,cdv,ct,osl,rfl,lk,hcd⟩:=F.ex
 refine Rt lk hcd S len fun A outer s H vs Q E hr hsp=>?_
 obtain⟨t,h,q⟩:=hbody cdv A outer s H vs Q E hr hsp
 exact⟨t,h.nox,q⟩
theorem Fun.binds {x qual:VM}{st:Stmt}{f:Addr}{fd:Yi}{ps:IR}(F:Fun K x qual st f fd)
  (h:∀ (kV doc pm:Value) (an:ID) (cdv ct:Value) (us:IF),us.length=ps.length->aaU (Y9 x qual (gA st) (eN st) (aD st) .none kV doc pm an cdv ct) ⟨us,[]⟩=pure (ps.zip us)):Binds K fd ps []:=by
 obtain⟨oc,od,kV,doc,pm,an,cdv,ct,osl,rfl,lk,hcd⟩:=F.ex
 exact .all (h kV doc pm an cdv ct)
theorem KY {x qual:VM}{st:Stmt}{f:Addr}{oc:Value}{od an:ID}{osl:Array (IC)}{kV doc pm cdv ct:Value}(l:K.lookup f=some ⟨oc,od,.func (Y9 x qual (gA st) (eN st) (aD st) .none kV doc pm an cdv ct),osl⟩)
  (c:aaV K cdv qual=true) (k:Z1 K (.ref f)=true):Fun K x qual st f (Y9 x qual (gA st) (eN st) (aD st) .none kV doc pm an cdv ct):=⟨⟨oc,od,kV,doc,pm,an,cdv,ct,osl,U,l,c⟩,k⟩
end
theorem aB {n:Nat}(h:n<=1000):n < sizeLine:=X8 h (by decide)
section
variable {X:Cx}
theorem pv (i:Nat){x:VM}{pos:YM}(hN:X.N[i]? = some x:=by rfl)(hv:Vis X.env.scope x:=by first | exact Zz rfl | exact Zm (Zz rfl) | exact Zm (Zm rfl))(hd:(x == ("__debug__" : VM))=false:=by decide)
  (hcd:(x == ("__classdict__" : VM))=false:=by decide):PE X (.Name x pos) (lF i):=PQ hN hv hd hcd
end
theorem fC {A B:Prop}(h:B):if false=true then A else B:=by
 rw[if_neg Uc]
 exact h
theorem gF {A B:Prop}(h:A):if true=true then A else B:=by
 rw[if_pos U]
 exact h
theorem DK {c A B:Prop}[Decidable c](h1:c->A)(h2:¬ c->B):if c then A else B:=by
 by_cases h:c
 ·rw[if_pos h]
  exact h1 h
 ·rw[if_neg h]
  exact h2 h
def aG (H H':Hp):Prop:=∀ b o,H b=some o->H' b=some o
theorem aG.refl (H:Hp):aG H H:=fun _ _ h=>h
theorem aG.trans {H H1 H2:Hp}(a:aG H H1)(b:aG H1 H2):aG H H2:=fun c o h=>b c o (a c o h)
theorem aG.free {H H':Hp}(e:aG H H'){l:Addr}(h:H' l=Option.none):H l=Option.none:=by
 cases q:H l with
 | none=>rfl
 | some o =>
  rw[e l o q] at h
  cases h
theorem aG.seq {K:Ut}{H H':Hp}{a:Addr}{xs:List V}(e:aG H H')(h:SqL K H a xs):SqL K H' a xs:=by
 rcases h with (h | ⟨o,h⟩) | h
 ·exact .inl (.inl (e _ _ h))
 ·exact .inl (.inr ⟨o,e _ _ h⟩)
 ·exact .inr h
end L2
set_option maxHeartbeats 4000000
namespace L2
open PySem PySem.Spec PyProof.Rows
theorem Eg {env:Env}:∀ {names:IB} {x:VM},names.lookup x=some .free →
  (names.map fun (n,k)=>if (k == Wz && env.scope.kind == .function && env.kindOf n == some .cell) then (n,aa6) else (n,k)).lookup x=some .cell ∨
  (names.map fun (n,k)=>if (k == Wz && env.scope.kind == .function && env.kindOf n == some .cell) then (n,aa6) else (n,k)).lookup x=some .free
 | [],_,h=>by simp at h
 | (n,k)::r,x,h=>by
  have ih:=@Eg env r x
  rw[U6]
  cases hx:x == n with
  | true =>
   rw[VP,hx] at h
   cases h
   by_cases hc:(Wz == Wz && env.scope.kind == .function && env.kindOf n == some .cell)=true
   ·refine .inl ?_
    dsimp only
    rw[if_pos hc,VP,hx]
   ·refine .inr ?_
    dsimp only
    rw[if_neg hc,VP,hx]
  | false =>
   rw[VP,hx] at h
   dsimp only
   by_cases hc:(k == Wz && env.scope.kind == .function && env.kindOf n == some .cell)=true
   ·rw[if_pos hc,VP,hx];exact ih h
   ·rw[if_neg hc,VP,hx];exact ih h
theorem yC {env:Env}:∀ {names:IB} {x:VM} {k':Z2},
  (names.map fun (n,k)=>if (k == Wz && env.scope.kind == .function && env.kindOf n == some .cell) then (n,aa6) else (n,k)).lookup x=some k'->names.lookup x=some k'∨names.lookup x=some .free
 | [],_,_,h=>by simp at h
 | (n,k)::r,x,k',h=>by
  have ih:=@yC env r x k'
  rw[U6] at h
  dsimp only at h
  cases hx:x == n with
  | true =>
   rw[VP,hx]
   by_cases hc:(k == Wz && env.scope.kind == .function && env.kindOf n == some .cell)=true
   ·have hk:k = .free:=by
     rw[Wc,Wc] at hc
     exact eq_of_beq hc.1.1
    exact .inr (by rw[hk])
   ·rw[if_neg hc,VP,hx] at h
    exact .inl h
  | false =>
   rw[VP,hx]
   by_cases hc:(k == Wz && env.scope.kind == .function && env.kindOf n == some .cell)=true
   ·rw[if_pos hc,VP,hx] at h;exact ih h
   ·rw[if_neg hc,VP,hx] at h;exact ih h
theorem yd {env:Env}:∀ (names:IB) (acc:Iq),(∀ y∈names,y.2 = .free->∃ c,env.cells.lookup y.1=some c)->(∀ n c,acc.lookup n=some c->env.cells.lookup n=some c) →
  ∃ cl,(forIn names acc (fun (x:VM × Z2) (r:Iq)=>(match x with | (name,kind)=>if (kind == Wz)=true then (do let c ← cellOf env name;pure (YS ((name,c)::r))) else pure (YS r):Sem (ForInStep (Iq)))))=pure cl ∧
   (∀ n c,cl.lookup n=some c->env.cells.lookup n=some c)/\(∀ n c,acc.lookup n=some c->∃ c',cl.lookup n=some c')/\∀ y∈names,y.2 = .free->∃ c,cl.lookup y.1=some c
 | [],acc,_,h=>⟨acc,by rw[XS],h,fun _ c e=>⟨c,e⟩,fun y hy=>by simp at hy⟩
 | (n,k)::r,acc,hf,h=>by
  rw[Xo]
  dsimp only
  by_cases hk:(k == Wz)=true
  ·rw[if_pos hk]
   have hk':k = .free:=eq_of_beq hk
   obtain⟨c,hc⟩:=hf (n,k) TY hk'
   have hc:env.cells.lookup n=some c:=hc
   have ec:cellOf env n=pure c:=by unfold cellOf;rw[hc]
   have h2:∀ m d,((n,c)::acc).lookup m=some d->env.cells.lookup m=some d:=fun m d e=>by
    rw[VP] at e
    cases hx:m == n with
    | true=>rw[hx] at e;cases e;rw[eq_of_beq hx];exact hc
    | false=>rw[hx] at e;exact h m d e
   obtain⟨cl,e1,e2,e3,e4⟩:=yd r ((n,c)::acc) (fun y hy=>hf y (TX _ hy)) h2
   refine⟨cl,by rw[ec,pure_bind,pure_bind];exact e1,e2,fun m d e=>?_,fun y hy hyf=>?_⟩
   ·refine (match hx:m == n with | true=>e3 m c (by rw[VP,hx]) | false=>e3 m d (by rw[VP,hx];exact e))
   ·rcases List.mem_cons.mp hy with rfl | hy
    ·exact e3 n c (by rw[VP,beq_self_eq_true])
    ·exact e4 y hy hyf
  ·rw[if_neg hk]
   obtain⟨cl,e1,e2,e3,e4⟩:=yd r acc (fun y hy=>hf y (TX _ hy)) h
   refine⟨cl,by rw[pure_bind];exact e1,e2,e3,fun y hy hyf=>?_⟩
   rcases List.mem_cons.mp hy with rfl | hy
   ·exact absurd (by rw[show k=Wz from hyf];rfl) hk
   ·exact e4 y hy hyf
theorem yw {scope:Yz}{env:Env}(h:∀ y∈scope.names,y.2 = .free->∃ c,env.cells.lookup y.1=some c) :
  ∃ cl,closureFor scope env=pure cl/\(∀ n c,cl.lookup n=some c->env.cells.lookup n=some c)/\∀ y∈scope.names,y.2 = .free->∃ c,cl.lookup y.1=some c:=by
 obtain⟨cl,e1,e2,_,e4⟩:=yd scope.names [] h (fun _ _ e=>by simp at e)
 refine⟨cl,?_,e2,e4⟩
 unfold closureFor
 first
  | exact e1
  | (rw[← bind_pure (x:=pure cl),← e1];rfl)
  | (simp only[bind_pure];exact e1)
def bB (X:Cx)(scope:Yz)(cl:Iq)(C:Addr)(N:IR)(s:TF)(H:Hp)(fp:II):Cx :=
 {X with N:=N,s₀:=s,H₀:=H,env:=abn scope cl C X.env,outer:=X.stack,ex:=fp,fn:=fun _=>false,pn:=[],xe:=fun _ _=>False }
structure pW (X:Cx)(scope:Yz)(F:IR)(cap:IP):Prop where
 kind:scope.kind = .function
 cell:∀ y∈scope.names,y.2≠.cell
 nms:∀ y∈scope.names,y.2 = .local->scope.names.lookup y.1=some .local
 fr:∀ y∈scope.names,y.2 = .free->X.env.kindOf y.1=some .cell∨X.env.kindOf y.1=some .free
 len:cap.length=F.length
 at':∀ (k:Nat) (x:VM),F[k]? = some x->∃ i,cap[k]? = some i/\X.N[i]? = some x/\scope.names.lookup x=some .free
def PTs (X:Cx)(ifs:IJ)(t:TT):Prop :=
 ∀ (ZY:Ic) (s:TF) (σ:St) (H:Hp) (Q:Bool->Hp->Prop),Inv X ZY σ H s->t σ H Q →
  Ug (Up X.prog X.w) X.A (forIn ifs true fun c r=>if r=true then do let ok ← isTrue c X.env (W8 c X.env);pure (YS ok) else pure (YS r)) (TP X ZY σ Q) X.xe s
def JC:TT:=fun _ H Q=>Q true H
theorem bu {X:Cx}:PTs X [] JC:=fun _ _ _ H _ I h=>wpAny_tests_nil ⟨H,I,h⟩
theorem qM {X:Cx}{c:Expr}{t:TT}(hc:PT X c t):PTs X [c] t:=fun ZY s σ H Q I h=>wpAny_tests_one (hc ZY s σ H Q I h)
theorem Cp {prog:Uy}{w:Ve}{A:Vf}{R:abb->TF->Prop}{s:TF}{elt target iter:Expr}{ifs:IJ}{scope:Yz}{pos:YM}{it acc:Value}{env:Env}(I:Nat->TF->Prop)
  (turn:∀ n s,I n s->Ug (Up prog w) A (W7 it) (fun r s₁=>match r with
   | none=>R (.ok .next) s₁
   | some v=>Ug (Up prog w) A (Xl target it v) (fun _ s₀=>Ug (Up prog w) A (ZZ target env v) (fun _ s₂ =>
     Ug (Up prog w) A (forIn ifs true fun c r=>if r=true then do let ok ← isTrue c env (W8 c env);pure (YS ok) else pure (YS r)) (fun ok s₃ =>
      if ok=true then Ug (Up prog w) A (W8 elt env) (fun x s₄=>Ug (Up prog w) A (call (.builtin "list.append") [acc,x]) (fun _ s₅=>∃ m,m < n/\I m s₅) (fun _ _=>False) s₄) (fun _ _=>False) s₃
      else ∃ m,m < n/\I m s₃) (fun _ _=>False) s₂) (fun _ _=>False) s₀) (fun _ _=>False) s₁) (fun _ _=>False) s)
  (n:Nat) (h:I n s):WL (Up prog w) A (.compLoop (.ListComp elt [⟨target,iter,ifs,0⟩] scope pos) 0 it acc env) R s:=by
 have no:∀ {E:Ix} (x:Value) (s':TF),(fun (_:Value) (_:TF)=>False) x s'->E x s':=fun _ _ z=>z.elim
 refine codeAny_loop U I (fun n s hI=>?_) n h
 refine (show Ug (Up prog w) A ((compTurn (.ListComp elt [⟨target,iter,ifs,0⟩] scope pos) 0 it acc env).onRaise (fun x=>do noteFrame x env;ab1 x)) _ _ s from wpAny_noted ?_)
 rw[compTurn_list]
 refine Tv (XC (Tv (VB (turn n s hI) (fun r s₁ h₁=>?_) no)))
 cases r with
 | none=>exact TV h₁
 | some v =>
  refine Tv (VB h₁ (fun _ s₀ h₀=>Tv (VB h₀ (fun _ s₂ h₂=>Tv (VB h₂ (fun ok s₃ h₃=>?_) no)) no)) no)
  cases ok with
  | false=>exact TV ⟨U,h₃⟩
  | true=>exact Tv (Tv (VB h₃ (fun x s₄ h₄=>Tv (VB h₄ (fun _ s₅ h₅=>TV (TV ⟨U,h₅⟩)) no)) no))
def iw (D:Addr)(σ0:St)(J:It)(g:TG)(tt:TT)(te:TE)(H1:Hp)(Q:Hp->Prop):Prop :=
 ∃ W:Nat->Nat->List V->St->Hp->Prop,(∃ m,W 0 m [] σ0 (upd H1 D (.lst []))) ∧
  ∀ i m ys σ' H',W i m ys σ' H'->H' D=some (.lst ys)/\((J.stop i H'/\Q H')∨(J.go i H'/\∃ N:List V->St->Hp->Prop,(∀ zs σ2 H2,N zs σ2 H2->∃ m',m' < m/\W (i+1) m' zs σ2 H2) ∧
   ∀ x H2,J.yld i H' x H2->g x σ' H2 fun σ3 H3=>tt σ3 H3 fun b H4=>if b=true then te σ3 H4 fun y H5=>H5 D=some (.lst ys)/\ys.length < sizeLine/\N (ys++[y]) σ3 (upd H5 D (.lst (ys++[y]))) else N ys σ3 H4))
def Li (n:Nat)(cap:IP)(σ:St):St:=Ur n none++cap.map fun i=>(σ[i]?).join
def Rg (n:Nat)(cap:IP)(wi:TI)(g:TG)(tt:TT)(te:TE):TE:=fun σ H Q=>wi σ H fun J H1=>∀ D,H1 D=none->iw D (Li n cap σ) J g tt te H1 fun H2=>Q (.ref D) H2
section
variable {X:Cx}{elt tg iter:Expr}{ifs:IJ}{scope:Yz}{pos:YM}{L F:IR}{cap:IP}{wi:TI}{g:TG}{tt:TT}{te:TE}
theorem zB {ZY:Ic}{σ:St}{H:Hp}{s:TF}(I:Inv X ZY σ H s){b:Addr}(h1:b≠X.env.locals)(h2:b ∉ X.fs):b ∉ frs X.stack:=fun z=>(List.mem_cons.mp (I.Hm b z)).elim h1 h2
theorem tD {cl:Iq}{ZY:Ic}{σ:St}{H:Hp}{s:TF}{fp:II}{h₁:Vv}{tk:Nat}(ok:pW X scope F cap)(I:Inv X ZY σ H s)(hfp:∀ b∈fp,tM X ZY H b/\b < s.heap.objs.size)
  (sub:∀ n c,cl.lookup n=some c->X.env.cells.lookup n=some c) (all:∀ y∈scope.names,y.2 = .free->∃ c,cl.lookup y.1=some c)
  (ns:h₁.Ns s.heap.objs.size fun _=>none) (kp:∀ b o,s.heap.get? b=some o->h₁.get? b=some o) :
  Inv (bB X scope cl s.heap.objs.size (L++F) s H fp) [] (Li L.length cap σ) H { s with heap:=h₁,toks:=tk }:=by
 have frk:∀ x,scope.names.lookup x=some .free->X.env.kindOf x=some .cell∨X.env.kindOf x=some .free:=fun x e=>ok.fr (x,.free) (Wj e) U
 have okX:(bB X scope cl s.heap.objs.size (L++F) s H fp).Ok:=by
  refine⟨I.ok.mod,ok.kind,I.ok.glob,I.ok.blt,Ua _,fun x y c e1 e2=>I.ok.inj x y c (sub x c e1) (sub y c e2),fun x hx=>?_,fun x c hx _=>?_,I.ok.hd,I.ok.frames,.inl U,fun b hb=>?_,I.bs,Vd I.ok.bsz I.sz,fun b o e hb=>?_,fun b hb=>?_,I.stack,I.GQ⟩
  ·have e:scope.names.lookup x=some .free:=by
    rcases hx with hx | hx
    ·rcases yC (env:=X.env) (show _=some aa6 from hx) with e | e
     ·exact absurd U (ok.cell _ (Wj e))
     ·exact e
    ·rcases yC (env:=X.env) (show _=some Wz from hx) with e | e <;> exact e
   exact all (x,.free) (Wj e) U
  ·exact absurd (show false=true from hx) Uc
  ·exact⟨Uq (hfp b hb).2,fun x c e=>(hfp b hb).1.2.2.2.2.1 x c (sub x c e)⟩
  ·obtain⟨_,_,_,f3,_⟩:=(hfp b hb).1
   rcases f3 with z | z
   ·exact I.ok.noex b o e z
   ·exact absurd (Us (Uk e) (Vd I.ok.bsz z)) (Wq _)
  ·obtain⟨_,f1,f2,_⟩:=(hfp b hb).1
   exact zB I f1 f2
 refine⟨okX,U,I.bare,Un.kept kp,⟨_,ns,fun i x v e1 e2 e3=>?_⟩,fun x c e=>?_,I.hok.fresh (Ua _),fun x c e=>I.freeC x c (sub x c e),fun p hp=>absurd (show p∈([]:Ic) from hp) (by simp),I.hok.kept kp,?_⟩
 ·have e1:(L++F)[i]? = some x:=e1
  have e2:(Ur L.length none++cap.map fun i=>(σ[i]?).join)[i]? = some (some v):=e2
  have hL:¬ i < L.length:=fun hi=>by
   rw[Wh (by simpa using hi),Y5] at e2
   split at e2 <;> cases e2
  have hi:L.length<=i:=Nat.le_of_not_lt hL
  rw[Vl hi] at e1
  rw[Vl (by simpa using hi),We,Uo] at e2
  obtain⟨j,hj,hN,hk⟩:=ok.at' _ _ e1
  rw[hj] at e2
  have e4:(σ[j]?).join=some v:=by simpa using e2
  have e5:σ[j]? = some (some v):=by
   cases q:σ[j]? with
   | none=>rw[q] at e4;cases e4
   | some a=>rw[q] at e4;exact congrArg some e4
  obtain⟨m,hn,hl⟩:=I.loc
  have kd:=frk x hk
  obtain⟨u,r,lk⟩:=hl j x v hN e5 (kd.elim (fun z=>.inr (.inl z)) fun z=>.inr (.inr z))
  obtain⟨c,hc,hcell⟩:∃ c,X.env.cells.lookup x=some c/\s.heap.IsCell c (some u):=by
   rcases lk with⟨z,_⟩ | ⟨_,c,z1,z2⟩
   ·rcases kd with y | y <;> (rw[y] at z;cases z)
   ·exact⟨c,z1,z2⟩
  obtain⟨c',hc'⟩:=all (x,.free) (Wj hk) U
  have ec:c'=c:=by
   have:=sub x c' hc'
   rw[hc] at this
   exact (U4 this).symm
  subst ec
  obtain⟨o,ho,hd⟩:=hcell
  exact⟨u,r,.inr ⟨(Eg (env:=X.env) hk),c',hc',o,kp _ _ ho,hd⟩⟩
 ·obtain⟨v,o,ho,hd⟩:=I.cell x c (sub x c e)
  exact⟨v,o,kp _ _ ho,hd⟩
 ·show (Ur L.length (none:Option V)++cap.map fun i=>(σ[i]?).join).length=(L++F).length
  rw[Uh,Uh,We,Tw,ok.len]
theorem Ar {cl:Iq}{ZY:Ic}{σ:St}{s2:TF}{H2:Hp}{it:Addr}{fp:II}{tn:Nat->Vv->Prop}{J:It}{use:Option (Value->Sem Unit)}{QQ:Ix}{Z:Hp->Prop}{E:Ix}
  (hc:X.calm=true) (ok:pW X scope F cap)
  (sub:∀ n c,cl.lookup n=some c->X.env.cells.lookup n=some c) (all:∀ y∈scope.names,y.2 = .free->∃ c,cl.lookup y.1=some c)
  (hg:∀ cl C s H fp,PG (bB X scope cl C (L++F) s H fp) tg g) (ht:∀ cl C s H fp,PTs (bB X scope cl C (L++F) s H fp) ifs tt) (he:∀ cl C s H fp,PE (bB X scope cl C (L++F) s H fp) elt te)
  (I2:Inv X ZY σ H2 s2) (T:Turn X.prog X.w X.K tg J fp it tn) (st2:tn 0 s2.heap) (f2:∀ b∈fp,tM X ZY H2 b)
  (q2:iw s2.heap.objs.size (Li L.length cap σ) J g tt te H2 Z)
  (fin:∀ (C:Addr) (s':TF) (H':Hp),Z H'->Inv X ZY σ H' s'->(∃ m,s'.heap.Ns C m)->H' C=none->C≠X.env.locals->X.s₀.heap.objs.size<=C->(∀ x c,X.env.cells.lookup x=some c->c≠C)->(∀ p∈X.pn++ZY,p.1≠C) →
   aar (Up X.prog X.w) X.A E use QQ (.ref s2.heap.objs.size) C (.ok .next) s') :
  Ug (Up X.prog X.w) X.A (newList []) (fun acc s₃=>Ug (Up X.prog X.w) X.A (newFunctionEnv scope X.env.globals cl [] X.env.qual none .none (some X.env)) (fun cenv s₄ =>
   WL (Up X.prog X.w) X.A (.compStart (.ListComp elt [⟨tg,iter,ifs,0⟩] scope pos) 0 (.ref it) acc { cenv with scope:=relabel scope X.env }) (aar (Up X.prog X.w) X.A E use QQ acc cenv.locals) s₄) E s₃) E s2:=by
 have hD:H2 s2.heap.objs.size=none:=I2.fresh
 refine Vc (wpAny_newFunctionEnv ok.cell (by intro y hy;simp at hy) (fun h₁ hns₁ hsb₁=>?_) ok.kind)
 dsimp only at hns₁ hsb₁ ⊢
 have I3:Inv X ZY σ (upd H2 s2.heap.objs.size (.lst [])) { s2 with heap:=s2.heap.push { cls:=.type "list",data:=.seq ([]:IF).toArray } }:=I2.QW (t':=s2.toks) (ys:=[]) (its:=[]) .nil (Uw _)
 have blt:∀ b∈fp,b < s2.heap.objs.size:=fun b hb=>let ⟨_,e,_⟩:=T.obj 0 _ st2 b hb;Uk e
 have szC:(s2.heap.push { cls:=.type "list",data:=.seq ([]:IF).toArray }).objs.size=s2.heap.objs.size+1:=Vt _ _
 generalize hs3:({ s2 with heap:=s2.heap.push { cls:=.type "list",data:=.seq ([]:IF).toArray } }:TF)=s3 at I3
 have es3:s3.heap=s2.heap.push { cls:=.type "list",data:=.seq ([]:IF).toArray }:=by rw[← hs3]
 have eos:s3.os=s2.os:=by rw[← hs3]
 have fok:∀ b∈fp,tM X ZY (upd H2 s2.heap.objs.size (.lst [])) b/\b < s3.heap.objs.size:=fun b hb=>by
  obtain⟨f0,fr⟩:=f2 b hb
  refine⟨⟨by rw[aR (Uq (blt b hb))];exact f0,fr⟩,?_⟩
  rw[es3,szC]
  exact Vi (blt b hb)
 have hkp:∀ b o,s3.heap.get? b=some o->h₁.get? b=some o:=fun b o e=>by
  have e':b < s3.heap.objs.size:=Uk e
  rw[es3] at e e'
  exact (hsb₁.2 b (Uq e')).trans (Tz _ e)
 have hns:h₁.Ns s3.heap.objs.size fun _=>none:=by
  rw[es3]
  exact hns₁
 have I4:∀ tk,Inv (bB X scope cl s3.heap.objs.size (L++F) s3 (upd H2 s2.heap.objs.size (.lst [])) fp) [] (Li L.length cap σ) (upd H2 s2.heap.objs.size (.lst [])) { s3 with heap:=h₁,toks:=tk }:=fun tk =>
  tD (L:=L) ok I3 fok sub all hns hkp
 have stat:∀ {H':Hp},(∀ b∈fp,H' b=none)->∀ b∈fp,tM (bB X scope cl s3.heap.objs.size (L++F) s3 (upd H2 s2.heap.objs.size (.lst [])) fp) [] H' b:=fun {H'} hn b hb=>by
  obtain⟨⟨_,g1,g2,g3,g4,g5⟩,g6⟩:=fok b hb
  exact⟨hn b hb,Uq g6,zB I3 g1 g2,.inl hb,fun x c e=>g4 x c (sub x c e),fun p hp=>absurd (show p∈([]:Ic) from hp) (by simp)⟩
 have loop:∀ tk,WL (Up X.prog X.w) X.A (.compLoop (.ListComp elt [⟨tg,iter,ifs,0⟩] scope pos) 0 (.ref it) (.ref s2.heap.objs.size) (abn scope cl s3.heap.objs.size X.env))
   (aar (Up X.prog X.w) X.A E use QQ (.ref s2.heap.objs.size) s3.heap.objs.size) { s3 with heap:=h₁,toks:=tk }:=fun tk=>by
  obtain⟨W,⟨m0,w0⟩,turn⟩:=q2
  have st3:tn 0 h₁:=T.keep 0 _ _ st2 fun b hb o e=>hkp b o (by rw[es3];exact Tz _ e)
  refine Cp (fun n s'=>∃ i ys σ' H',Inv (bB X scope cl s3.heap.objs.size (L++F) s3 (upd H2 s2.heap.objs.size (.lst [])) fp) [] σ' H' s'/\tn i s'.heap/\(∀ b∈fp,H' b=none)/\W i n ys σ' H') ?_ m0
   ⟨0,[],_,_,I4 tk,st3,fun b hb=>(fok b hb).1.1,w0⟩
  rintro n s5 ⟨i,ys,σ5,H5,I5,st5,fr5,w5⟩
  obtain⟨hDl,alt⟩:=turn i n ys σ5 H5 w5
  rcases alt with⟨stop,qz⟩ | ⟨go,N,hN,step⟩
  ·refine thn (T.done (bB X scope cl s3.heap.objs.size (L++F) s3 (upd H2 s2.heap.objs.size (.lst [])) fp) U U U hc i [] s5 σ5 H5 _ I5 (stat fr5) st5 stop) fun r s6 ⟨hr,I6⟩=>?_
   subst hr
   have un:Un (frs X.stack) fp H2 H5 s2.heap s6.heap:=by
    have u1:Un (frs X.stack) fp H2 (upd H2 s2.heap.objs.size (.lst [])) s2.heap s3.heap:=by
     rw[es3]
     exact Un.laid (fun _ _ q=>Tz _ q) (Ua _) hD
    exact u1.trans I6.base
   have J1:Inv X ZY σ H5 s6:=I2.call' (I6.os.trans eos) un I6.hok I6.bare fun b hb=>by
    obtain⟨_,g1,_,g3,g4,g5⟩:=f2 b hb
    exact⟨g3,g1,g4,g5⟩
   have hC:s2.heap.objs.size<=s3.heap.objs.size:=by rw[es3,szC];exact WT _
   obtain⟨m,hm,_⟩:=I6.loc
   refine fin s3.heap.objs.size s6 H5 qz J1 ⟨m,hm⟩ I6.free (Wg (Us I2.lt hC)) (Vd I2.sz hC) (fun x c e z=>?_) (fun p hp z=>?_)
   ·obtain⟨v,q⟩:=I2.cell x c e
    exact absurd (Us q.lt (by rw[z];exact hC)) (Wq _)
   ·exact absurd (Us (Uk (I2.pin p hp).1) (by rw[z];exact hC)) (Wq _)
  ·refine thn (T.item (bB X scope cl s3.heap.objs.size (L++F) s3 (upd H2 s2.heap.objs.size (.lst [])) fp) U U U hc i [] s5 σ5 H5 _ I5 (stat fr5) st5 go) fun r s6 ⟨u,hr,h6⟩=>?_
   subst hr
   refine thn h6 fun _ s7 ⟨x,H7,I7,r7,y7,st7,fr7⟩=>?_
   have I7':=I7.pinned (stat fr7) (T.obj _ _ st7)
   refine thn (hg _ _ _ _ _ _ s7 σ5 H7 x u _ I7' r7 (step x H7 y7)) fun _ s8 ⟨σ8,H8,I8,q8⟩=>?_
   have again:∀ {σ9:St} {H9:Hp} {s9:TF} {zs:List V},Inv (bB X scope cl s3.heap.objs.size (L++F) s3 (upd H2 s2.heap.objs.size (.lst [])) fp) ([]++nZ fp s7.heap) σ9 H9 s9->N zs σ9 H9 →
     ∃ m,m < n/\∃ i ys σ' H',Inv (bB X scope cl s3.heap.objs.size (L++F) s3 (upd H2 s2.heap.objs.size (.lst [])) fp) [] σ' H' s9/\tn i s9.heap/\(∀ b∈fp,H' b=none)/\W i m ys σ' H':=fun {σ9 H9 s9 zs} I9 n9=>by
    obtain⟨m',hm,w9⟩:=hN zs σ9 H9 n9
    refine⟨m',hm,i+1,zs,σ9,H9,I9.j7,T.keep _ _ _ st7 fun b hb o e=>(I9.pin (b,o) (UW _ (UW _ (dD hb e)))).1,fun b hb=>?_,w9⟩
    obtain⟨o,e,d⟩:=T.obj _ _ st7 b hb
    exact (I9.pin (b,o) (UW _ (UW _ (dD hb e)))).2.1
   refine thn (ht _ _ _ _ _ _ s8 σ8 H8 _ I8 q8) fun okb s9 ⟨H9,I9,q9⟩=>?_
   cases okb with
   | false =>
    rw[if_neg Uc] at q9 ⊢
    exact again I9 q9
   | true =>
    rw[if_pos U] at q9 ⊢
    refine thn (he _ _ _ _ _ _ s9 σ8 H9 _ I9 q9) fun y s10 ⟨yv,H10,I10,r10,e10,z10,n10⟩=>?_
    refine thn (bI _ s10 σ8 H10 (.ref s2.heap.objs.size) [yv] (.ref s2.heap.objs.size) [y] (fun _ H'=>N (ys++[yv]) σ8 H') I10 U (.cons r10 .nil) ⟨_,ys,yv,U,U,e10,z10,n10⟩) fun _ s11 ⟨_,H11,I11,_,n11⟩=>?_
    exact again I11 n11
 have eC:(s2.heap.push { cls:=.type "list",data:=.seq ([]:IF).toArray }).objs.size=s3.heap.objs.size:=by rw[es3]
 have goal:∀ tk,WL (Up X.prog X.w) X.A (.compStart (.ListComp elt [⟨tg,iter,ifs,0⟩] scope pos) 0 (.ref it) (.ref s2.heap.objs.size) (abn scope cl s3.heap.objs.size X.env))
   (aar (Up X.prog X.w) X.A E use QQ (.ref s2.heap.objs.size) s3.heap.objs.size) { s3 with heap:=h₁,toks:=tk }:=fun tk =>
  codeAny_compStart_list (loop tk) (T.self _ 0 _ _ _ (T.keep 0 _ _ st2 fun b hb o e=>hkp b o (by rw[es3];exact Tz _ e)) (loop tk))
 have g0:=goal (s2.toks+([]:HZ).length)
 subst hs3
 exact g0
theorem bh (hc:X.calm=true)(ok:pW X scope F cap)(hi:PI X tg iter wi)
  (hg:∀ cl C s H fp,PG (bB X scope cl C (L++F) s H fp) tg g) (ht:∀ cl C s H fp,PTs (bB X scope cl C (L++F) s H fp) ifs tt) (he:∀ cl C s H fp,PE (bB X scope cl C (L++F) s H fp) elt te)
  (hs:∀ x,Xa iter X.env x=pure x:=by intro _;rfl):PE X (.ListComp elt [⟨tg,iter,ifs,0⟩] scope pos) (Rg L.length cap wi g tt te):=by
 intro ZY s σ H Q I h
 obtain⟨cl,e1,e2,e3⟩:=yw (scope:=scope) (env:=X.env) (fun y hy hf=>I.ok.has _ (ok.fr y hy hf))
 rw[eval_ListComp]
 refine aah (use:=none) U hs e1 ok.kind ok.nms (thn (hi ZY s σ H _ I h) fun v s1 h1=>thn h1 fun itv s2 h2=>?_)
 obtain⟨it,fp,tn,J,H2,e,I2,T,st2,f2,q2⟩:=h2
 subst e
 refine Ar (Z:=fun H'=>Q (.ref s2.heap.objs.size) H') hc ok e2 e3 hg ht he I2 T st2 f2 (q2 _ I2.fresh) fun C s' H' z J m hCf hCl hCs hCc hCp=>?_
 ·obtain⟨m,hm⟩:=m
  exact⟨m,hm,fun h' hs'=>⟨.ref _,H',J.turned (t':=s'.toks) (fun b o hb e=>(hs'.2 b hb).trans e) hCf hCl (.inr hCs) hCc hCp,U,z⟩⟩
def Qk (n:Nat)(cap:IP)(wi:TI)(g:TG)(tt:TT)(te:TE)(j:Nat):TS:=fun D σ H=>wi σ H fun J H1=>∀ d,H1 d=none->iw d (Li n cap σ) J g tt te H1 fun H2=>D.nx (σ.set j (some (.ref d))) H2
theorem uI {j:Nat}{y:VM}{py spos:YM}(hN:X.N.Nodup)(hj:X.N[j]? = some y)(hy:Loc X.env.scope y)(hc:X.calm=true)(ok:pW X scope F cap)(hi:PI X tg iter wi)
  (hg:∀ cl C s H fp,PG (bB X scope cl C (L++F) s H fp) tg g) (ht:∀ cl C s H fp,PTs (bB X scope cl C (L++F) s H fp) ifs tt) (he:∀ cl C s H fp,PE (bB X scope cl C (L++F) s H fp) elt te)
  (hsw:aap (.ListComp elt [⟨tg,iter,ifs,0⟩] scope pos) (some (.Name y py)) spos.line X.env=pure true:=by rfl)
  (hs:∀ x,Xa iter X.env x=pure x:=by intro _;rfl) (hf:X.fn y=true∨X.env.scope.names.lookup y=some .local:=by first | exact .inl rfl | exact .inr rfl | assumption) :
  PS X (.Assign [.Name y py] (.ListComp elt [⟨tg,iter,ifs,0⟩] scope pos) spos) (Qk L.length cap wi g tt te j):=by
 intro ZY s σ H D I h
 obtain⟨cl,e1,e2,e3⟩:=yw (scope:=scope) (env:=X.env) (fun y hy hf=>I.ok.has _ (ok.fr y hy hf))
 rw[exec_Assign_Name_used _ _ _ _ hsw]
 refine Tv (XC (Tv ?_))
 show Ug (Up X.prog X.w) X.A (do let _ ← comprehension (.ListComp elt [⟨tg,iter,ifs,0⟩] scope pos) scope X.env _ (newList []) false (W8 iter X.env) (some (ZZ (.Name y py) X.env))) _ _ s
 refine Tv (VB (aah (use:=some (ZZ (.Name y py) X.env)) (Q:=fun _ s'=>SP X ZY D .next s') U hs e1 ok.kind ok.nms
  (thn (hi ZY s σ H _ I h) fun v s1 h1=>thn h1 fun itv s2 h2=>?_)) (fun _ s' hq=>TV (TV hq)) fun _ _ e=>e)
 obtain⟨it,fp,tn,J,H2,e,I2,T,st2,f2,q2⟩:=h2
 subst e
 refine Ar (Z:=fun H'=>D.nx (σ.set j (some (.ref s2.heap.objs.size))) H') hc ok e2 e3 hg ht he I2 T st2 f2 (q2 _ I2.fresh) fun C s' H' z J m hCf hCl hCs hCc hCp=>?_
 obtain⟨m,hm⟩:=m
 refine abi (qm J hN hj hy (v:=.ref s2.heap.objs.size) U (fun s5 I5 hs5=>?_) hf)
 obtain⟨a,sb,ha⟩:=hs5
 have hne:C≠a:=by
  rcases ha with rfl | ha
  ·exact hCl
  ·exact Xd (hCc y a ha)
 exact⟨m,hm.sameBut sb hne,fun h' hs'=>⟨_,H',I5.turned (t':=s5.toks) (fun b o hb e=>(hs'.2 b hb).trans e) hCf hCl (.inr hCs) hCc hCp,z⟩⟩
end
structure Df (P:Uy)(w:Ve)(K:Ut)(mg:VM->IC)(base:Vv)(x:VM)(k:Nat)(ps:IR)(sp:Sp):Prop where
 ex:∃ (f:Addr) (fd:Yi),dF P w K mg base CX0 k f fd ps sp/\mg x=some (.ref f)/\Z1 K (.ref f)=true/\Binds K fd ps []
section
variable {X:Cx}{k j:Nat}{x:VM}{ps:IR}{sp:Sp}{p pos:YM}{e:Expr}{es:IJ}{t:TA}
theorem aP (D:Df X.prog X.w X.K X.mg X.base x k ps sp)(hr:rm j X.A)(ha:PA X (e::es) t)(hk:k<=j:=by first | decide | exact Ua _ | lia)(hg:Gl X x:=by rfl)
  (hdb:(x == ("__debug__" : VM))=false:=by decide) (he:U9 (e::es) X.env=(false,W8 e X.env)::U9 es X.env:=by rfl) (hpl:(Zj pos (U9 es X.env)).any (·.1)=false:=by rfl) :
  PE X (.Call (.Name x p) (e::es) [] pos) (Cg sp [] E0 t):=by
 obtain⟨f,fd,F,hm,hkp,hb⟩:=D.ex
 exact Oz F (hr.mono hk) hg hm hkp hb .nil Q4 ha hdb he hpl
theorem rN {T:String}(hm:X.mg x=none)(hv:VF x=some (.type T))(hg:Gl X x:=by rfl)(hn:x≠"__name__":=by decide)(hd:(x == ("__debug__" : VM))=false:=by decide):PE X (.Name x pos) (tC (.ty T)):=N8 hg hm hv U hn hd
inductive HX (K:UT)(xs:List V)(H:Hp)(Q:VK):Prop where
 | mk (x:V) (T:String) (t:Value) (b:Bool) (_:xs=[x,.ty T]) (_:Cr K H x t) (_:YG K t (.type T)=some b) (_:Q (.bl b) H)
theorem eY:iT X (.builtin "isinstance") (HX X.K):=by
 intro ZY s σ H xs us Q I r h
 obtain⟨x,T,t,b,rfl,ty,e,q⟩:=h
 obtain⟨u,v,rfl,ru,rv⟩:=vals2 r
 cases (show v=X7 T from rv)
 exact G8 I ru ty e fun tk=>⟨.bl b,H,I.tok tk,U,q⟩
def RZ (K:UT):List V->Hp->VK->Prop:=fun xs H Q=>∃ (p:Addr) (ys:List V),xs=[.ref p]/\(SqL K H p ys∨SqT K H p ys)/\Q (.int ys.length) H
theorem Fx:iT X (.builtin "len") (RZ X.K):=wH
def HF (K:UT):List V->Hp->VK->Prop:=fun xs H Q=>∃ (p:Addr) (ys:List V),xs=[.ref p]/\(SqL K H p ys∨SqT K H p ys)/\∀ l,H l=none->Q (.ref l) (upd H l (.lst ys))
theorem Dr:iT X (.type "list") (HF X.K):=xN
def fH (K:UT):List V->Hp->VK->Prop:=fun xs H Q=>∃ (p:Addr) (ys:List V),xs=[.ref p]/\((SqL K H p ys/\∀ l,H l=none->Q (.ref l) (upd H l (.tup ys)))∨(SqT K H p ys/\Q (.ref p) H))
theorem bw:iT X (.type "tuple") (fH X.K):=uZ
theorem kj:∀ bs:List Bool,(Ui bs.length).all (fun i=>bs.getD i true)=bs.all fun b=>b
 | []=>rfl
 | b::r=>by
  have ih:=kj r
  rw[Um,aaB,Zr,List.all_map,Zr,← ih]
  rfl
inductive GX (K:UT)(xs:List V)(H:Hp)(Q:VK):Prop where
 | mk (p:Addr) (bs:List Bool) (_:xs=[.ref p]) (_:SqL K H p (bs.map V.bl)) (_:Q (.bl (bs.all fun b=>b)) H)
theorem lY (hc:X.calm=true):iT X (.builtin "all") (GX X.K):=by
 intro ZY s σ H xs us Q I r h
 obtain⟨p,bs,rfl,hq,q⟩:=h
 obtain⟨u,rfl,ru⟩:=vals1 r
 cases ru
 obtain⟨its,rv,pl,hz⟩:=I.list hq
 have hlen:bs.length=its.length:=by simpa using rv.length
 refine call_all_walk (Xr pl.isList ?_)
 have I1:Inv X ZY σ H { s with heap:=s.heap.push { cls:=.type "list_iterator",data:=.fields #[.ref p,.int 0 0] } }:=I.kept (t':=s.toks) fun b o e=>Tz _ e
 have hne:p≠s.heap.objs.size:=by
  obtain⟨o,ho,_⟩:=pl.isList
  exact Uq (Uk ho)
 refine⟨s.heap.objs.size,_,_,_,_,_,fun i=>bs.getD i true,U,aa9 (A:=X.A.in1) (I.ok.hd hc) s.heap.objs.size p hne its.toArray,⟨⟨_,Ub _ U,U,U⟩,?_⟩,?_,fun h' tk hk=>?_⟩
 ·obtain⟨o,ho,hr⟩:=pl.isList
  exact⟨o,Tz _ ho,hr⟩
 ·intro i v s' Q' E' hP hQ
  have hP:its[i]? = some v:=by simpa using hP
  have hi:i < bs.length:=by
   rw[hlen]
   exact (List.getElem?_eq_some_iff.mp hP).1
  obtain⟨u',hu',ru'⟩:=rv.get (i:=i) (x:=V.bl bs[i]) (by rw[Uo,TJ hi];rfl)
  rw[hP] at hu'
  cases hu'
  cases (show v=aaw bs[i] from ru')
  refine WD ?_
  have eg:bs.getD i true=bs[i]:=by rw[TQ,TJ hi];rfl
  have hQ':Q' (bs.getD i true) s':=hQ
  rw[eg] at hQ'
  exact hQ'
 ·have f:=I.Im (b:=s.heap.objs.size) (H':=H) (Ua _) I.fresh
  have eall:(Ui its.toArray.size).all (fun i=>bs.getD i true)=bs.all fun b=>b:=by
   have el:its.toArray.size=bs.length:=by rw[Ue,hlen]
   rw[el]
   exact kj bs
  rw[eall]
  exact⟨.bl _,H,I1.turned (t':=tk) (it:=s.heap.objs.size) (fun b o hb e=>hk b o (by simpa using hb) e) f.1 f.2.1 f.2.2.2.1 f.2.2.2.2.1 f.2.2.2.2.2,U,q⟩
end
def Gk (osc:Yz)(oN:IR)(sc:Yz)(F:IR)(cap:IP):Bool :=
 decide (sc.kind = .function) && sc.names.all (fun y=>!decide (y.2 = .cell)) && sc.names.all (fun y=>!decide (y.2 = .local) || decide (sc.names.lookup y.1=some .local)) &&
 sc.names.all (fun y=>!decide (y.2 = .free) || decide (osc.names.lookup y.1=some .cell) || decide (osc.names.lookup y.1=some .free)) && decide (cap.length=F.length) &&
 (Ui F.length).all fun k=>(decide (F[k]? = none) || decide ((cap[k]?.bind fun i=>oN[i]?)=F[k]?)) && decide ((F[k]?.bind fun x=>sc.names.lookup x)=some .free)
theorem aV {X:Cx}{osc sc:Yz}{oN F:IR}{cap:IP}(ho:X.env.scope=osc)(hN:X.N=oN)(h:Gk osc oN sc F cap=true):pW X sc F cap:=by
 unfold Gk at h
 simp only[Wc] at h
 obtain⟨⟨⟨⟨⟨h1,h2⟩,h3⟩,h4⟩,h5⟩,h6⟩:=h
 refine⟨of_decide_eq_true h1,fun y hy e=>?_,fun y hy e=>?_,fun y hy e=>?_,of_decide_eq_true h5,fun k x e=>?_⟩
 ·have:=List.all_eq_true.mp h2 y hy
  rw[e] at this
  exact absurd this (by decide)
 ·have:=List.all_eq_true.mp h3 y hy
  rw[decide_eq_true e] at this
  exact of_decide_eq_true (by simpa using this)
 ·have:=List.all_eq_true.mp h4 y hy
  rw[decide_eq_true e] at this
  have z:decide (osc.names.lookup y.1=some .cell)=true∨decide (osc.names.lookup y.1=some .free)=true:=by
   rw[Bool.not_true,aa7,ab9] at this
   exact this
  show X.env.scope.names.lookup y.1=_∨X.env.scope.names.lookup y.1=_
  rw[ho]
  exact z.elim (fun q=>.inl (of_decide_eq_true q)) fun q=>.inr (of_decide_eq_true q)
 ·have hk:k < F.length:=(List.getElem?_eq_some_iff.mp e).1
  have q:=List.all_eq_true.mp h6 k (List.mem_range.mpr hk)
  rw[e,Wc] at q
  obtain⟨q1,q2⟩:=q
  have q1:(cap[k]?.bind fun i=>oN[i]?)=some x:=by
   rw[ab9] at q1
   rcases q1 with z | z
   ·exact absurd (of_decide_eq_true z) (by simp)
   ·exact of_decide_eq_true z
  have q2:sc.names.lookup x=some .free:=of_decide_eq_true q2
  cases hc:cap[k]? with
  | none=>rw[hc] at q1;cases q1
  | some i =>
   rw[hc] at q1
   exact⟨i,U,by rw[hN];exact q1,q2⟩
theorem Ng {X:Cx}{scope:Yz}{cl:Iq}{C:Addr}{N:IR}{s:TF}{H:Hp}{fp:II}(h:N.Nodup):(bB X scope cl C N s H fp).N.Nodup:=h
section
variable {K:UT}{a D:Addr}{xs:List V}{g:TG}{tt:TT}{te:TE}{H1:Hp}{Q:Hp->Prop}{σ0:St}
theorem dW (Pv:Nat->List V->St->Hp->Prop)(h0:Pv 0 [] σ0 (upd H1 D (.lst [])))(hl:∀ i ys σ H,i<=xs.length->Pv i ys σ H->SqT K H a xs/\H D=some (.lst ys))
  (hs:∀ i ys x σ H,xs[i]? = some x->Pv i ys σ H->g x σ H fun σ3 H3=>tt σ3 H3 fun b H4=>if b=true then te σ3 H4 fun y H5=>H5 D=some (.lst ys)/\ys.length < sizeLine/\Pv (i+1) (ys++[y]) σ3 (upd H5 D (.lst (ys++[y]))) else Pv (i+1) ys σ3 H4)
  (hd:∀ ys σ H,Pv xs.length ys σ H->Q H):iw D σ0 (Itt K a) g tt te H1 Q:=by
 refine⟨fun i m ys σ H=>m=xs.length - i/\i<=xs.length/\Pv i ys σ H,⟨xs.length,by simp,Uw _,h0⟩,?_⟩
 rintro i m ys σ H ⟨rfl,hi,p⟩
 obtain⟨q,qD⟩:=hl i ys σ H hi p
 refine⟨qD,?_⟩
 by_cases hlt:i < xs.length
 ·refine .inr ⟨⟨xs,xs[i],q,by simp [hlt]⟩,Pv (i+1),fun zs σ' H' p'=>⟨xs.length - (i+1),by lia,U,hlt,p'⟩,fun x H' y=>?_⟩
  obtain⟨e,y⟩:=y
  subst e
  exact hs i ys x σ _ (y xs q) p
 ·have e:i=xs.length:=by lia
  subst e
  exact .inl ⟨⟨xs,q,Ua _⟩,hd ys σ H p⟩
theorem bV (Pv:Nat->List V->St->Hp->Prop)(h0:Pv 0 [] σ0 (upd H1 D (.lst [])))(hl:∀ i ys σ H,i<=xs.length->Pv i ys σ H->SqL K H a xs/\H D=some (.lst ys))
  (hs:∀ i ys x σ H,xs[i]? = some x->Pv i ys σ H->g x σ H fun σ3 H3=>tt σ3 H3 fun b H4=>if b=true then te σ3 H4 fun y H5=>H5 D=some (.lst ys)/\ys.length < sizeLine/\Pv (i+1) (ys++[y]) σ3 (upd H5 D (.lst (ys++[y]))) else Pv (i+1) ys σ3 H4)
  (hd:∀ ys σ H,Pv xs.length ys σ H->Q H):iw D σ0 (Itl K a) g tt te H1 Q:=by
 refine⟨fun i m ys σ H=>m=xs.length - i/\i<=xs.length/\Pv i ys σ H,⟨xs.length,by simp,Uw _,h0⟩,?_⟩
 rintro i m ys σ H ⟨rfl,hi,p⟩
 obtain⟨q,qD⟩:=hl i ys σ H hi p
 refine⟨qD,?_⟩
 by_cases hlt:i < xs.length
 ·refine .inr ⟨⟨xs,xs[i],q,by simp [hlt]⟩,Pv (i+1),fun zs σ' H' p'=>⟨xs.length - (i+1),by lia,U,hlt,p'⟩,fun x H' y=>?_⟩
  obtain⟨e,y⟩:=y
  subst e
  exact hs i ys x σ _ (y xs q) p
 ·have e:i=xs.length:=by lia
  subst e
  exact .inl ⟨⟨xs,q,Ua _⟩,hd ys σ H p⟩
theorem dH {lo:Int}{n:Nat}(Pv:Nat->List V->St->Hp->Prop)(h0:Pv 0 [] σ0 (upd H1 D (.lst [])))(hl:∀ i ys σ H,i<=n->Pv i ys σ H->H D=some (.lst ys))
  (hs:∀ i ys σ H,i < n->Pv i ys σ H->g (.int (lo+i)) σ H fun σ3 H3=>tt σ3 H3 fun b H4=>if b=true then te σ3 H4 fun y H5=>H5 D=some (.lst ys)/\ys.length < sizeLine/\Pv (i+1) (ys++[y]) σ3 (upd H5 D (.lst (ys++[y]))) else Pv (i+1) ys σ3 H4)
  (hd:∀ ys σ H,Pv n ys σ H->Q H):iw D σ0 (Itr lo n) g tt te H1 Q:=by
 refine⟨fun i m ys σ H=>m=n - i/\i<=n/\Pv i ys σ H,⟨n,by simp,Uw _,h0⟩,?_⟩
 rintro i m ys σ H ⟨rfl,hi,p⟩
 refine⟨hl i ys σ H hi p,?_⟩
 by_cases hlt:i < n
 ·refine .inr ⟨hlt,Pv (i+1),fun zs σ' H' p'=>⟨n - (i+1),by lia,U,hlt,p'⟩,fun x H' y=>?_⟩
  obtain⟨e,y⟩:=y
  subst e y
  exact hs i ys σ _ hlt p
 ·have e:i=n:=by lia
  subst e
  exact .inl ⟨Ua _,hd ys σ H p⟩
end
structure Bt (mg:VM->IC):Prop where
 len_:mg "len" = none
 range_:mg "range" = none
 all_:mg "all" = none
 isinstance_:mg "isinstance" = none
 int_:mg "int" = none
 bool_:mg "bool" = none
 str_:mg "str" = none
 list_:mg "list" = none
 tuple_:mg "tuple" = none
 abs_:mg "abs" = none
 max_:mg "max" = none
 min_:mg "min" = none
 sum_:mg "sum" = none
 sorted_:mg "sorted" = none
 zip_:mg "zip" = none
 reversed_:mg "reversed" = none
 divmod_:mg "divmod" = none
 set_:mg "set" = none
 any_:mg "any" = none
 enumerate_:mg "enumerate" = none
theorem Pj:VF "len" = some (.builtin "len"):=PySem.boot_len
theorem Az:VF "all" = some (.builtin "all"):=by decide+kernel
theorem bH:VF "isinstance" = some (.builtin "isinstance"):=by decide+kernel
theorem Aj:VF "abs" = some (.builtin "abs"):=by decide+kernel
theorem oF:VF "max" = some (.builtin "max"):=by decide+kernel
theorem GD:VF "min" = some (.builtin "min"):=by decide+kernel
theorem Ge:VF "sum" = some (.builtin "sum"):=by decide+kernel
theorem zX:VF "int" = some (.type "int"):=by decide+kernel
theorem Hh:VF "bool" = some (.type "bool"):=by decide+kernel
theorem Kv:VF "str" = some (.type "str"):=by decide+kernel
theorem yK:VF "list" = some (.type "list"):=by decide+kernel
theorem bW:VF "tuple" = some (.type "tuple"):=by decide+kernel
theorem rH (K:UT)(T:String):YG K (.type T) (.type T)=some true:=by
 unfold PySem.W.kitOne
 rw[if_pos (beq_self_eq_true _)]
theorem pL (K:UT):YG K (.type "int") (.type "bool")=some false:=by kernel_rfl
theorem qd (K:UT):YG K (.type "bool") (.type "int")=some true:=by kernel_rfl
theorem Di (K:UT):YG K (.type "int") (.type "str")=some false:=by kernel_rfl
theorem yR (K:UT):YG K (.type "bool") (.type "str")=some false:=by kernel_rfl
theorem wZ (K:UT):YG K (.type "tuple") (.type "str")=some false:=by kernel_rfl
theorem yI (K:UT):YG K (.type "list") (.type "str")=some false:=by kernel_rfl
theorem vJ (K:UT):YG K (.type "tuple") (.type "int")=some false:=by kernel_rfl
theorem zg (K:UT):YG K (.type "list") (.type "int")=some false:=by kernel_rfl
theorem mJ (K:UT):YG K (.type "tuple") (.type "list")=some false:=by kernel_rfl
theorem mj (K:UT):YG K (.type "list") (.type "tuple")=some false:=by kernel_rfl
inductive Dm where
 | non | bl (b:Bool) | int (i:Int) | str (x:VM) | tup (ds:List Dm) | lst (ds:List Dm)
mutual
def Dm.dep:Dm->Nat
 | .tup ds=>vA ds+1
 | .lst ds=>vA ds+1
 | _=>0
def vA:List Dm->Nat
 | []=>0
 | d::r=>max d.dep (vA r)
end
mutual
inductive Rep (H:Hp):V->Dm->Prop where
 | non:Rep H .non .non
 | bl (b:Bool):Rep H (.bl b) (.bl b)
 | int (i:Int):Rep H (.int i) (.int i)
 | str (x:VM):Rep H (.str x) (.str x)
 | tup {a:Addr} {xs:List V} {ds:List Dm}:H a=some (.tup xs)->xs.length<=100000->uW H xs ds->Rep H (.ref a) (.tup ds)
 | lst {a:Addr} {xs:List V} {ds:List Dm}:H a=some (.lst xs)->xs.length<=100000->uW H xs ds->Rep H (.ref a) (.lst ds)
inductive uW (H:Hp):List V->List Dm->Prop where
 | nil:uW H [] []
 | cons {v:V} {d:Dm} {vs:List V} {ds:List Dm}:Rep H v d->uW H vs ds->uW H (v::vs) (d::ds)
end
mutual
theorem Rep.mono {H H':Hp}(e:aG H H'):∀ {v:V} {d:Dm},Rep H v d->Rep H' v d
 | _,_,.non=>.non
 | _,_,.bl b=>.bl b
 | _,_,.int i=>.int i
 | _,_,.str x=>.str x
 | _,_,.tup h l r=>.tup (e _ _ h) l (uW.mono e r)
 | _,_,.lst h l r=>.lst (e _ _ h) l (uW.mono e r)
theorem uW.mono {H H':Hp}(e:aG H H'):∀ {vs:List V} {ds:List Dm},uW H vs ds->uW H' vs ds
 | _,_,.nil=>.nil
 | _,_,.cons h r=>.cons (Rep.mono e h) (uW.mono e r)
end
theorem uW.length {H:Hp}:∀ {vs:List V} {ds:List Dm},uW H vs ds->vs.length=ds.length
 | _,_,.nil=>rfl
 | _,_,.cons _ r=>by rw[Um,Um,uW.length r]
theorem uW.get {H:Hp}:∀ {vs:List V} {ds:List Dm} {i:Nat},uW H vs ds->i < vs.length->∃ v d,vs[i]? = some v/\ds[i]? = some d/\Rep H v d
 | _,_,_,.nil,h=>absurd h (aaH _)
 | _,_,0,.cons h _,_=>⟨_,_,U,U,h⟩
 | _,_,i+1,.cons _ r,h=>by
  obtain⟨v,d,e1,e2,e3⟩:=uW.get (i:=i) r (aaz h)
  exact⟨v,d,by simpa using e1,by simpa using e2,e3⟩
theorem vp:∀ {ds:List Dm} {i:Nat} {d:Dm},ds[i]? = some d->d.dep<=vA ds
 | [],_,_,h=>by simp at h
 | d::r,0,_,h=>by
  cases (show some d=some _ from h)
  rw[vA]
  exact Nat.le_max_left _ _
 | d::r,i+1,_,h=>by
  rw[vA]
  exact Vd (vp (i:=i) (ds:=r) (by simpa using h)) (Nat.le_max_right _ _)
theorem qZ {H:Hp}:∀ ns:IN,uW H (ns.map V.int) (ns.map Dm.int)
 | []=>.nil
 | n::r=>.cons (.int n) (qZ r)
section
variable {X:Cx}
inductive Rh (K:UT)(x:V)(y:V)(H:Hp)(Q:VK):Prop where
 | mk (a b:Addr) (xs:List V) (_:x = .ref a) (_:y = .ref b) (_:SqL K H a xs) (_:SqL K H b []) (_:Q (.bl xs.isEmpty) H)
theorem Kr (hu:X.A.units < cLine):OpR X (Wl .Eq) (Rh X.K):=by
 intro ZY s σ H x y v u Q I rx ry h
 obtain⟨a,b,xs,rfl,rfl,ha,hb,q⟩:=h
 cases rx
 cases ry
 obtain⟨its,r1,p1,_⟩:=I.list ha
 obtain⟨its2,r2,p2,_⟩:=I.list hb
 cases r2
 cases r1 with
 | nil=>exact SeqAt.eq_listAt (e:=fun _=>true) p1.isList p2.isList U hu (fun j h1 _=>absurd h1 (by simp)) ⟨.bl true,H,I,U,q⟩
 | cons r t=>exact SeqAt.eq_list_lengthsAt p1.isList p2.isList (by simp) hu ⟨.bl false,H,I,U,q⟩
inductive RQ (K:UT)(x:V)(y:V)(H:Hp)(Q:VK):Prop where
 | mk (a b:Addr) (xs:List V) (_:x = .ref a) (_:y = .ref b) (_:SqL K H a xs) (_:SqL K H b []) (_:Q (.bl (!xs.isEmpty)) H)
theorem Qt (hu:X.A.units < cLine):OpR X (Wl .NotEq) (RQ X.K):=by
 intro ZY s σ H x y v u Q I rx ry h
 obtain⟨a,b,xs,rfl,rfl,ha,hb,q⟩:=h
 cases rx
 cases ry
 obtain⟨its,r1,p1,_⟩:=I.list ha
 obtain⟨its2,r2,p2,_⟩:=I.list hb
 cases r2
 cases r1 with
 | nil=>exact SeqAt.RcNeAt.lists (e:=fun _=>true) p1.isList p2.isList U hu (fun j h1 _=>absurd h1 (by simp)) X.prog X.w X.xe _ ⟨.bl false,H,I,U,q⟩
 | cons r t=>exact SeqAt.RcNeAt.lists_lengths p1.isList p2.isList (by simp) hu X.prog X.w X.xe _ ⟨.bl true,H,I,U,q⟩
end
section
variable {prog:Uy}{w:Ve}{A:Vf}{E:Ix}{s:TF}
theorem pQ {it t:Addr}{i:Nat}{its:Array Value}{x:Value}{Q:Ix}(j:s.heap.IsTupleIter it t i)(ht:s.heap.IsTuple t its)(hx:its[i]? = some x)
  (k:∀ h',h'.IsTupleIter it t (i+1)->WN it s.heap h'->Q x { s with heap:=h' }):Ug (Up prog w) A (Vo (.ref it)) Q E s:=by
 obtain⟨o,e1,c1,d1⟩:=id j;obtain⟨o2,e2,_,n2,d2⟩:=ht;unfold Vo
 refine Tv (Vx (name:=WM "__next__") j.typeIs Yw (Vu Yw j.typeIs acb ?_ (ab8 _)))
 show Ug _ _ (aa4 (.ref it) 0 >>= _) _ _ s;refine Tv (Vr e1 d1 (x:=.ref t) U ?_)
 show Ug _ _ (if (U5 t == U0)=true then _ else _) _ _ s;rw[if_neg (show ¬ ((U5 t == U0)=true) from Uc)]
 show Ug _ _ (aa4 (.ref it) 1 >>= _) _ _ s;refine Tv (Vr e1 d1 (x:=.int i 0) U ?_)
 show Ug _ _ (aaq (.ref t) >>= _) _ _ s;refine Tv (VH e2 d2 ?_);simp only[UL,hx]
 refine Tv (WK e1 d1 (by simp) (TV ⟨x,U,TV (k _ ?_ (VL ..))⟩))
 exact⟨_,Vq _ e1 (Obj.isFreed_of_fields (Obj.data_mapFields d1 _)),(Obj.cls_mapFields ..).trans c1,by rw[Obj.data_mapFields d1];simp [V2]⟩
theorem K5 {it t:Addr}{i:Nat}{its:Array Value}{Q:Ix}(hh:A.handled=none)(j:s.heap.IsTupleIter it t i)(ht:s.heap.IsTuple t its)(hx:its[i]? = none)
  (k:∀ h' e,Heap.ExtBut it s.heap h'->(∃ o,h'.get? e=some o/\o.cls = .type "StopIteration")->E (.ref e) { s with heap:=h' }):Ug (Up prog w) A (Vo (.ref it)) Q E s:=by
 obtain⟨o,e1,c1,d1⟩:=id j;obtain⟨o2,e2,_,n2,d2⟩:=ht;unfold Vo
 refine Tv (Vx (name:=WM "__next__") j.typeIs Yw (Vu Yw j.typeIs acb ?_ (ab8 _)))
 show Ug _ _ (aa4 (.ref it) 0 >>= _) _ _ s;refine Tv (Vr e1 d1 (x:=.ref t) U ?_)
 show Ug _ _ (if (U5 t == U0)=true then _ else _) _ _ s;rw[if_neg (show ¬ ((U5 t == U0)=true) from Uc)]
 show Ug _ _ (aa4 (.ref it) 1 >>= _) _ _ s;refine Tv (Vr e1 d1 (x:=.int i 0) U ?_)
 show Ug _ _ (aaq (.ref t) >>= _) _ _ s;refine Tv (VH e2 d2 ?_);simp only[UL,hx]
 refine Tv (Xg (Tv (WK e1 d1 (by simp) ?_)));show Ug _ _ (abL (.type "StopIteration") [] >>= _) _ _ _
 refine Tv ?_;simp only[abL,newTuple];refine Tv (Vc ?_ (by size_fits))
 refine Tv (m:=XQ _ _) (W6 (a:=U0) (by first | rfl | (simp only[XQ];rfl)) ?_);refine Vc ?_ (by size_fits)
 simp only[raiseNew];refine Tv (aa3 ?_);first | rw[show A.in1.handled=none from hh] | rw[hh]
 refine Tv (TV (abW ?_));exact k _ _ (((VL ..).extBut.push _).push _) ⟨_,Ub _ U,U⟩
structure Zap (z p q i1 i2 l1 l2:Addr):Prop where
 pz:p≠z
 qz:q≠z
 az:i1≠z
 bz:i2≠z
 pq:p≠q
 pa:p≠i1
 pb:p≠i2
 qa:q≠i1
 qb:q≠i2
 ab:i1≠i2
 xz:l1≠z
 xq:l1≠q
 xa:l1≠i1
 xb:l1≠i2
 yz:l2≠z
 yq:l2≠q
 ya:l2≠i1
 yb:l2≠i2
theorem jw {h h':Vv}{a t:Addr}{its:Array Value}(ht:h.IsTuple t its)(sb:WN a h h')(ne:t≠a):h'.IsTuple t its:=by
 obtain⟨o,e,r⟩:=ht
 exact⟨o,(sb.2 t ne).trans e,r⟩
theorem c7 {h h':Vv}{a it t:Addr}{i:Nat}(ht:h.IsTupleIter it t i)(sb:WN a h h')(ne:it≠a):h'.IsTupleIter it t i:=by
 obtain⟨o,e,r⟩:=ht
 exact⟨o,(sb.2 it ne).trans e,r⟩
abbrev zA (h:Vv)(t:Addr):Vv:=h.push { cls:=.type "tuple_iterator",data:=.fields #[.ref t,.int 0 0] }
end
theorem Inv.jO {X:Cx}{ZY:Ic}{σ:St}{H:Hp}{s:TF}{h':Vv}{t':Nat}{ch:II}(I:Inv X ZY σ H s)(k:∀ b o,b ∉ ch->s.heap.get? b=some o->h'.get? b=some o)(hf:∀ b∈ch,tM X ZY H b) :
  Inv X ZY σ H { s with heap:=h',toks:=t' }:=by
 have nit:∀ b u,H b=some u->b ∉ ch:=fun b u e z=>by
  have:=(hf b z).1
  rw[this] at e;cases e
 refine I.step (g':=s.gens) (d':=s.drawn) (ch:=ch) (fun b hb=>let ⟨_,f1,_,f3,f4,f5⟩:=hf b hb;⟨f3,f1,f4,f5⟩) (fun b o _ _ hc e _=>k b o hc e) (fun b o _ _ hc e _=>⟨o.slots,k b o hc e⟩) (fun _ _ _ _ n=>n)
  (fun b o hc e=>⟨o,k b o hc e⟩) (fun _ _ e=>e) (fun _ _ _ e=>e) (fun b ps e=>⟨#[],by rw[e];simp⟩) (fun m hm=>?_) (fun b u e=>?_) I.bare
 ·obtain⟨o,es,ep,ho,r⟩:=hm
  exact⟨o,es,ep,k _ o (fun z=>(hf _ z).2.1 U) ho,r⟩
 ·refine (I.hok b u e).stay (fun c v hc q=>k c v ?_ q) (fun _ q=>q) fun _ _ q=>q
  rcases hc with z | z
  ·rw[z];exact nit b u e
  ·exact nit c _ z
theorem NQ {n c d:Nat}(hc:c < n)(hd:d < n):Zap (n+4) (n+2) (n+3) n (n+1) c d:=by
 constructor <;> (refine (fun (h:¬ @Eq Nat _ _)=>h) ?_) <;> lia
theorem lZ:∀ ns ms:IN,((Ui (min ns.length ms.length)).all (fun j=>ns.getD j 0 == ms.getD j 0) && ns.length == ms.length)=decide (ns=ms)
 | [],[]=>rfl
 | [],m::ms=>by rw[decide_eq_false (by simp)];rfl
 | n::ns,[]=>by rw[decide_eq_false (by simp)];rfl
 | n::ns,m::ms=>by
  have ih:=lZ ns ms
  have e:min (n::ns).length (m::ms).length=min ns.length ms.length+1:=by rw[Um,Um];lia
  have el:((n::ns).length == (m::ms).length)=(ns.length == ms.length):=by simp
  have e3:decide (n::ns=m::ms)=(n == m && decide (ns=ms)):=by
   by_cases h1:n=m
   ·subst h1
    by_cases h2:ns=ms
    ·subst h2;simp
    ·simp [h2]
   ·simp [h1]
  rw[e,aaB,Zr,List.all_map,el,e3,← ih,Bool.and_assoc]
  rfl
theorem du {X:Cx}{pos:YM}{K:UT}{es:IJ}{k:Nat}{t:TGs}(n:Nat)(hK:X.K=K)(hc:X.calm=true)(h:PGs X es t)
  (hn:(Zk es X.env).length=n:=by rfl) (hst:(Zk es X.env).findIdx? (·.1)=none:=by rfl):PG X (.Tuple es k pos) (RX K n t):=by
 subst hK
 exact QR hc h hn hst
section
variable {X:Cx}
inductive vD (K:UT)(x:V)(y:V)(H:Hp)(Q:VK):Prop where
 | mk (a b:Addr) (ns ms:IN) (_:x = .ref a) (_:y = .ref b) (_:SqT K H a (ns.map V.int)) (_:SqT K H b (ms.map V.int)) (_:Q (.bl (decide (ns=ms))) H)
theorem ints_get {ns:IN}{its:IF}(i:Vn its ns){j:Nat}(h:j < its.length):∃ t,its[j] = .int (ns.getD j 0) t:=by
 induction i generalizing j with
 | nil=>exact absurd h (aaH _)
 | cons n t r ih =>
  cases j with
  | zero=>exact⟨t,U⟩
  | succ j =>
   obtain⟨u,e⟩:=ih (j:=j) (aaz h)
   exact⟨u,by simpa using e⟩
theorem kW (hu:X.A.units < cLine):OpR X (Wl .Eq) (vD X.K):=by
 intro ZY s σ H x y v u Q I rx ry h
 obtain⟨a,b,ns,ms,rfl,rfl,ha,hb,q⟩:=h
 cases rx
 cases ry
 obtain⟨its,r1,p1,_⟩:=I.tuple ha
 obtain⟨its2,r2,p2,_⟩:=I.tuple hb
 have i1:Vn its ns:=intsAre_of r1
 have i2:Vn its2 ms:=intsAre_of r2
 have l1:=i1.length
 have l2:=i2.length
 refine SeqAt.eq_tupleAt (e:=fun j=>ns.getD j 0 == ms.getD j 0) (show s.heap.IsTuple a its.toArray from p1) (show s.heap.IsTuple b its2.toArray from p2) hu (fun j h1 h2=>?_) ?_
 ·obtain⟨t,e1⟩:=ints_get i1 (j:=j) (by simpa using h1)
  obtain⟨t',e2⟩:=ints_get i2 (j:=j) (by simpa using h2)
  rw[Xy,Xy,e1,e2]
  exact Z0 _ _ _ _
 ·refine⟨.bl _,H,I,?_,q⟩
  have e:=lZ ns ms
  have s1:its.toArray.size=ns.length:=by rw[Ue];exact l1
  have s2:its2.toArray.size=ms.length:=by rw[Ue];exact l2
  rw[s1,s2,e]
  rfl
inductive iB (K:UT)(x:V)(y:V)(H:Hp)(Q:VK):Prop where
 | mk (a b:Addr) (xs ys:List V) (_:x = .ref a) (_:y = .ref b) (_:SqT K H a xs) (_:SqT K H b ys) (_:xs.length+ys.length<=sizeLine) (_:(xs=[]->Q (.ref b) H)) (_:(xs≠[]->ys=[]->Q (.ref a) H)) (_:(xs≠[]->ys≠[]->∀ p,H p=none->Q (.ref p) (upd H p (.tup (xs++ys)))))
theorem jj:OpR X (Yq .Add) (iB X.K):=by
 intro ZY s σ H x y v u Q I rx ry h
 obtain⟨a,b,xs,ys,rfl,rfl,ha,hb,hz,q0,q1,q2⟩:=h
 by_cases hx:xs=[]
 ·subst hx
  cases rx
  cases ry
  obtain⟨its,r1,p1,_⟩:=I.tuple ha
  obtain⟨its2,r2,p2,_⟩:=I.tuple hb
  cases r1
  obtain⟨⟨c1,d1,dt1,sl1⟩,ho,hc,n,hd⟩:=id p1
  obtain⟨⟨c2,d2,dt2,sl2⟩,ho2,hc2,n2,hd2⟩:=id p2
  simp only at hc hd hc2 hd2
  subst hc hd hc2 hd2
  exact concat_meets ⟨_,ho,U⟩ ⟨_,ho2,U⟩ abK seq_tuple_add aay aas (aak _ _) (tuple_addW0 a b _ _ n n2 d1 d2 sl1 sl2 U) ⟨ho,ho2,⟨.ref b,H,I,U,q0 U⟩⟩
 ·exact N5 ZY s σ H _ _ v u Q I rx ry ⟨a,b,xs,ys,U,U,ha,hb,hx,hz,q1 hx,q2 hx⟩
end
theorem kh:∀ bs:List Bool,(Ui bs.length).any (fun i=>bs.getD i false)=bs.any fun b=>b
 | []=>rfl
 | b::r=>by
  have ih:=kh r
  rw[Um,aaB,Yl,List.any_map,Yl,← ih]
  rfl
theorem CN (l:Addr)(items:Array Value)(n:Nat)(dd:ID)(sl:Array (IC))(x:Int)(u:Tok)(h1:1 < x)(h2:x < 2 ^ 31)(he:items.isEmpty=false)(hz:items.size * x.toNat<=sizeLine) :
  abw (Builtin.«tuple.__mul__» ⟨[.ref l,.int x u],[]⟩) (fun _ R s=>s.heap.get? l=some { cls:=.type "tuple",dict:=dd,data:=.seq items n,slots:=sl }/\R (.ok (.ret (U5 s.heap.objs.size))) { s with heap:=s.heap.push { cls:=X7 "tuple",data:=Data.seq (YZ (fun x1 x2=>x1++x2) #[] (Ur x.toNat items)) },toks:=s.toks }) :=
 .of_wp fun prog w A R s h=>by
  obtain⟨hp,g,d,tk,os⟩:=s
  obtain⟨hl,h⟩:=h
  have f1:=AutoSeq1.idx_int
  have c1:(decide (x < -(2 ^ 63)) || decide (x ≥ 2 ^ 63))=false:=by
   rw[decide_eq_false (by lia),decide_eq_false (by lia)]
   rfl
  have c2:(items.isEmpty || x == 1)=false:=by
   rw[he,beq_false_of_ne (by lia)]
   rfl
  have c3:(decide (x<=0) || items.isEmpty)=false:=by
   rw[he,decide_eq_false (by lia)]
   rfl
  have ez:((items.size * x.toNat:Nat):Int)=(items.size:Int) * x:=by
   rw[Int.natCast_mul,aa2 (by lia)]
  have c4:¬ (items.size:Int) * x > (2 ^ 63 - 1) / 8:=by
   have:(sizeLine:Nat)<=(2 ^ 63 - 1) / 8:=by decide
   lia
  have c5:Builtin.Tuple.tupleTooMany ((items.size:Int) * x)=false:=by
   unfold Builtin.Tuple.tupleTooMany
   rw[decide_eq_false]
   lia
  have c6:¬ (YZ (fun x1 x2=>x1++x2) #[] (Ur x.toNat items)).size > sizeLine:=by
   have e:=foldl_rep items.toList x.toNat []
   rw[ZC,Array.toArray_toList] at e
   rw[e,Ue,len_rep,Uv,Nat.mul_comm]
   lia
  wp_walk using UG hl
  refine Xk (decide_eq_false (by rw[c1];exact Uc)) ?_
  wp_walk using UG hl
  refine Xk (decide_eq_false (by rw[c2];exact Uc)) ?_
  wp_walk using UG hl
  refine Xk (decide_eq_false (by rw[c3];exact Uc)) ?_
  wp_walk using UG hl
  refine Xk (decide_eq_false c4) ?_
  wp_walk using UG hl
  exact⟨_,U,h⟩
theorem Dz (l:Addr)(items:Array Value)(n:Nat)(dd:ID)(sl:Array (IC))(u:Tok) :
  abw (Builtin.«tuple.__mul__» ⟨[.ref l,.int 1 u],[]⟩) (fun _ R s=>s.heap.get? l=some { cls:=.type "tuple",dict:=dd,data:=.seq items n,slots:=sl }/\R (.ok (.ret (U5 l))) s) :=
 .of_wp fun prog w A R s h=>by
  obtain⟨hp,g,d,tk,os⟩:=s
  obtain⟨hl,h⟩:=h
  have f1:=AutoSeq1.idx_int
  have c2:(items.isEmpty || (1:Int) == 1)=true:=by rw[show ((1:Int) == 1)=true from U,Bool.or_true]
  wp_walk using UG hl
  exact⟨_,U,h⟩
theorem ju:fillsNumberSlot (.type "tuple") "mul" = pure false :=
 PySem.fillsNumberSlot_seq (id:="tuple.__mul__") (r:=some (.builtin "tuple.__rmul__")) F.slot_tuple_mul.lookup (by decide+kernel) F.slot_tuple_rmul.lookup (by decide+kernel)
theorem oU:seqRepeat? (.type "tuple")=pure (some (.builtin "tuple.__mul__")):=by
 unfold seqRepeat?
 rw[PySem.seqSlot_of (T:="tuple") (name:="__mul__") (id:="tuple.__mul__") F.slot_tuple_mul.lookup (by decide+kernel),PySem.seqSlot_of (T:="tuple") (name:="__rmul__") (id:="tuple.__rmul__") F.slot_tuple_rmul.lookup (by decide+kernel)]
 rfl
theorem j9 (a:Int)(t:Tok)(l:Addr)(items:Array Value)(n:Nat)(dd:ID)(sl:Array (IC)) :
  abw (Builtin.«int.__rmul__» ⟨[.int a t,.ref l],[]⟩) (fun _ R s=>s.heap.get? l=some { cls:=.type "tuple",dict:=dd,data:=.seq items n,slots:=sl }/\R (.ok (.ret Value.notImplemented)) s) :=
 .of_wp fun prog w A R s h=>by
  obtain⟨hp,g,d,tk,os⟩:=s
  obtain⟨hl,h⟩:=h
  wp_walk
  exact⟨_,U,h⟩
section
variable {X:Cx}
inductive N7 (K:UT)(x:V)(y:V)(H:Hp)(Q:VK):Prop where
 | mk (l:Addr) (k:Int) (xs:List V) (_:x = .ref l) (_:y = .int k) (_:SqT K H l xs) (_:xs≠[]) (_:1<=k) (_:k < 2 ^ 31) (_:xs.length * k.toNat<=sizeLine) (_:(k=1->Q (.ref l) H)) (_:(k≠1->∀ p,H p=none->Q (.ref p) (upd H p (.tup (Ur k.toNat xs).flatten))))
theorem Od:OpR X (Yq .Mult) (N7 X.K):=by
 intro ZY s σ H x y v u Q I rx ry h
 obtain⟨l,k,xs,rfl,rfl,hl,hx,h1,h2,hz,q1,q2⟩:=h
 cases rx
 obtain⟨t,rfl⟩:=ry
 obtain⟨its,r,p,_⟩:=I.tuple hl
 have hlen:=r.length
 obtain⟨⟨c1,d1,dt1,sl1⟩,ho,hc,n,hd⟩:=id p
 simp only at hc hd
 subst hc hd
 by_cases hk:k=1
 ·subst hk
  exact Z3 (T:="tuple") (U:="int") (by decide) ⟨_,ho,U⟩ (fun s'=>ZW s' 1 t) ju ab7 YT oU F.slot_int_index.lookup
   (XD YT (ZW s 1 t) abU (abE _ _) (j9 1 t l its.toArray n d1 sl1)
    ⟨ho,U,⟨_,ho,U⟩,XD F.slot_tuple_mul ⟨_,ho,U⟩ F.entry_tuple_mul (F.args_tuple_mul_2 _ _) (Dz l its.toArray n d1 sl1 t) ⟨ho,⟨.ref l,H,I,U,q1 U⟩⟩⟩)
 ·have he:its.toArray.isEmpty=false:=by
   cases its with
   | nil=>exact absurd (r.uP.mp U) hx
   | cons a r'=>rfl
  have hnew:YZ (fun x1 x2=>x1++x2) #[] (Ur k.toNat its.toArray)=(Ur k.toNat its).flatten.toArray:=by
   have:=foldl_rep its k.toNat []
   rw[ZC] at this
   exact this
  have hz':its.toArray.size * k.toNat<=sizeLine:=by rw[Ue,← hlen];exact hz
  refine Z3 (T:="tuple") (U:="int") (by decide) ⟨_,ho,U⟩ (fun s'=>ZW s' k t) ju ab7 YT oU F.slot_int_index.lookup
   (XD YT (ZW s k t) abU (abE _ _) (j9 k t l its.toArray n d1 sl1)
    ⟨ho,U,⟨_,ho,U⟩,XD F.slot_tuple_mul ⟨_,ho,U⟩ F.entry_tuple_mul (F.args_tuple_mul_2 _ _) (CN l its.toArray n d1 sl1 k t (by lia) h2 he hz') ⟨ho,?_⟩⟩)
  rw[hnew]
  refine⟨.ref s.heap.objs.size,_,I.laid (t':=s.toks) (o:=.tup (Ur k.toNat xs).flatten) (fun b ob q=>Tz _ q) (Ua _) ?_,U,q2 hk _ (I.hok.fresh (Ua _))⟩
  exact⟨by rw[len_rep,Nat.mul_comm];exact hz,_,r.rep k.toNat,IsTup.new _ _⟩
inductive JQ (K:UT)(xs:List V)(H:Hp)(Q:VK):Prop where
 | mk (p:Addr) (ns:IN) (_:xs=[.ref p]) (_:SqL K H p (ns.map V.int)) (_:Q (.int ns.sum) H)
theorem qy (hc:X.calm=true):iT X (.builtin "sum") (JQ X.K):=by
 intro ZY s σ H xs us Q I r h
 obtain⟨p,ns,rfl,hq,q⟩:=h
 obtain⟨u,rfl,ru⟩:=vals1 r
 cases ru
 obtain⟨its,rv,pl,hz⟩:=I.list hq
 have hi:Vn its ns:=intsAre_of rv
 obtain⟨zs,hx⟩:=hi.allInts.items
 have hl':s.heap.IsList p (intItems zs):=hx▸pl.isList
 refine sum_intListG (I.ok.hd hc) hl' fun h' tk t' hk=>?_
 have e1:ns=zs.toList.map (·.1):=by
  rw[← nums_intItems,← hx]
  exact (show numsOf its.toArray.toList=ns from hi.numsOf).symm
 have e2:preSum (numAt zs) zs.size=ns.sum:=by
  rw[preSum_eq,aaA (by simp),e1]
 rw[e2]
 exact⟨.int _,H,I.kept (t':=tk) hk,⟨_,U⟩,q⟩
inductive M9 (K:UT)(xs:List V)(H:Hp)(Q:VK):Prop where
 | mk (p:Addr) (bs:List Bool) (_:xs=[.ref p]) (_:SqL K H p (bs.map V.bl)) (_:Q (.bl (bs.any fun b=>b)) H)
theorem xX (hc:X.calm=true):iT X (.builtin "any") (M9 X.K):=by
 intro ZY s σ H xs us Q I r h
 obtain⟨p,bs,rfl,hq,q⟩:=h
 obtain⟨u,rfl,ru⟩:=vals1 r
 cases ru
 obtain⟨its,rv,pl,hz⟩:=I.list hq
 have hlen:bs.length=its.length:=by simpa using rv.length
 refine call_any_walk (Xr pl.isList ?_)
 have I1:Inv X ZY σ H { s with heap:=s.heap.push { cls:=.type "list_iterator",data:=.fields #[.ref p,.int 0 0] } }:=I.kept (t':=s.toks) fun b o e=>Tz _ e
 have hne:p≠s.heap.objs.size:=by
  obtain⟨o,ho,_⟩:=pl.isList
  exact Uq (Uk ho)
 refine⟨s.heap.objs.size,_,_,_,_,_,fun i=>bs.getD i false,U,aa9 (A:=X.A.in1) (I.ok.hd hc) s.heap.objs.size p hne its.toArray,⟨⟨_,Ub _ U,U,U⟩,?_⟩,?_,fun h' tk hk=>?_⟩
 ·obtain⟨o,ho,hr⟩:=pl.isList
  exact⟨o,Tz _ ho,hr⟩
 ·intro i v s' Q' E' hP hQ
  have hP:its[i]? = some v:=by simpa using hP
  have hi:i < bs.length:=by
   rw[hlen]
   exact (List.getElem?_eq_some_iff.mp hP).1
  obtain⟨u',hu',ru'⟩:=rv.get (i:=i) (x:=V.bl bs[i]) (by rw[Uo,TJ hi];rfl)
  rw[hP] at hu'
  cases hu'
  cases (show v=aaw bs[i] from ru')
  refine WD ?_
  have eg:bs.getD i false=bs[i]:=by rw[TQ,TJ hi];rfl
  have hQ':Q' (bs.getD i false) s':=hQ
  rw[eg] at hQ'
  exact hQ'
 ·have f:=I.Im (b:=s.heap.objs.size) (H':=H) (Ua _) I.fresh
  have eany:(Ui its.toArray.size).any (fun i=>bs.getD i false)=bs.any fun b=>b:=by
   have el:its.toArray.size=bs.length:=by rw[Ue,hlen]
   rw[el]
   exact kh bs
  rw[eany]
  exact⟨.bl _,H,I1.turned (t':=tk) (it:=s.heap.objs.size) (fun b o hb e=>hk b o (by simpa using hb) e) f.1 f.2.1 f.2.2.2.1 f.2.2.2.2.1 f.2.2.2.2.2,U,q⟩
end
theorem Lp:VF "any" = some (.builtin "any"):=by decide+kernel
def Py:List V->Hp->VK->Prop:=fun xs H Q=>(∃ i,xs=[.int i]/\Q (.int i) H)∨∃ k,xs=[.bl k]/\Q (.int (if k then 1 else 0)) H
end L2
namespace L2
open PySem
def Ris (xs:Array Nat):Prop:=xs.toList.Pairwise (· < ·)
theorem Ai {xs:Array Nat}(h:Ris xs){i j x y:Nat}(hij:i < j)(hi:xs[i]? = some x)(hj:xs[j]? = some y):x < y:=by
 rw[← Vk] at hi hj
 obtain⟨li,ei⟩:=List.getElem?_eq_some_iff.mp hi
 obtain⟨lj,ej⟩:=List.getElem?_eq_some_iff.mp hj
 have:=List.pairwise_iff_getElem.mp h i j li lj hij
 rw[ei,ej] at this
 exact this
theorem uh {xs:Array Nat}(h:Ris xs)(j:Nat):∀ (fuel lo hi:Nat),hi - lo<=fuel->lo<=hi->hi<=xs.size->(∀ i x,i < lo->xs[i]? = some x->x < j)->(∀ i x,hi<=i->xs[i]? = some x->j<=x) →
  Y8 xs j fuel lo hi<=xs.size/\(∀ i x,i < Y8 xs j fuel lo hi->xs[i]? = some x->x < j)/\(∀ i x,Y8 xs j fuel lo hi<=i->xs[i]? = some x->j<=x)
 | 0,lo,hi,hf,hl,hs,h1,h2=>by
  rw[Y8]
  have e:lo=hi:=by lia
  subst e
  exact⟨hs,h1,h2⟩
 | fuel+1,lo,hi,hf,hl,hs,h1,h2=>by
  rw[Y8]
  by_cases hlt:lo < hi
  ·rw[if_pos hlt]
   dsimp only
   have hm1:lo<=(lo+hi) / 2:=by lia
   have hm2:(lo+hi) / 2 < hi:=by lia
   have hms:(lo+hi) / 2 < xs.size:=by lia
   generalize (lo+hi) / 2=m at *
   have eg:xs[m]? = some xs[m]:=Uu hms
   have ed:xs.getD m j=xs[m]:=by rw[Wf,eg];rfl
   rw[ed]
   by_cases hc:xs[m] < j
   ·rw[if_pos hc]
    refine uh h j fuel (m+1) hi (by lia) (by lia) hs (fun i x hi' e=>?_) h2
    by_cases hm:i=m
    ·subst hm
     rw[eg] at e
     cases e
     exact hc
    ·exact abv (Ai h (show i < m by lia) e eg) hc
   ·rw[if_neg hc]
    refine uh h j fuel lo m (by lia) hm1 (by lia) h1 (fun i x hi' e=>?_)
    by_cases hm:i=m
    ·subst hm
     rw[eg] at e
     cases e
     lia
    ·have:=Ai h (show m < i by lia) eg e
     lia
  ·rw[if_neg hlt]
   have e:lo=hi:=by lia
   subst e
   exact⟨hs,h1,h2⟩
theorem ux {xs:Array Nat}(h:Ris xs)(j:Nat):V9 xs j<=xs.size/\(∀ i x,i < V9 xs j->xs[i]? = some x->x < j)/\(∀ i x,V9 xs j<=i->xs[i]? = some x->j<=x):=by
 unfold V9
 refine uh h j xs.size 0 xs.size (by lia) (Uw _) (Ua _) (fun i x hi=>absurd hi (aaH _)) fun i x hi e=>?_
 rw[Ye hi] at e
 cases e
theorem below_at {xs:Array Nat}(h:Ris xs){i x:Nat}(e:xs[i]? = some x):V9 xs (x+1)=i+1:=by
 obtain⟨h1,h2,h3⟩:=ux h (x+1)
 have hi:i < xs.size:=(Array.getElem?_eq_some_iff.mp e).1
 generalize V9 xs (x+1)=p at *
 rcases Nat.lt_trichotomy p (i+1) with hp | hp | hp
 ·have:=h3 i x (by lia) e
  lia
 ·exact hp
 ·have hs:i+1 < xs.size:=by lia
  have:=Ai h (Wb i) e (Uu hs)
  have:=h2 (i+1) _ hp (Uu hs)
  lia
theorem Dp {xs:Array Nat}(h:Ris xs):V9 xs 0=0:=by
 obtain⟨h1,h2,h3⟩:=ux h 0
 generalize V9 xs 0=p at *
 rcases Nat.eq_zero_or_pos p with hp | hp
 ·exact hp
 ·have hs:0 < xs.size:=by lia
  have:=h2 0 _ hp (Uu hs)
  lia
theorem NB {xs:Array Nat}(h:Ris xs){j:Nat}(hj:xs[V9 xs j]?≠some j):Ris (SetTable.insertAt xs (V9 xs j) j):=by
 obtain⟨h1,h2,h3⟩:=ux h j
 unfold Ris
 rw[SetTable.toList_insertAt]
 generalize hp:V9 xs j=p at *
 have hh:xs.toList.Pairwise (· < ·):=h
 have hlt:∀ x∈xs.toList.take p,x < j:=fun x hx=>by
  obtain⟨i,hi,e⟩:=XH hx
  rw[Uj] at hi
  rw[List.getElem_take] at e
  exact h2 i x (by lia) (by rw[← Vk,TJ (by lia),e])
 have hgt:∀ x∈xs.toList.drop p,j < x:=fun x hx=>by
  obtain⟨i,hi,e⟩:=XH hx
  rw[V4] at hi
  rw[List.getElem_drop] at e
  have ex:xs[p+i]? = some x:=by rw[← Vk,TJ (by lia),e]
  have:=h3 (p+i) x (by lia) ex
  rcases V0 j x with q | q
  ·exact q
  ·have ejx:x=j:=by lia
   subst ejx
   by_cases hi0:i=0
   ·subst hi0
    exact absurd ex hj
   ·have hps:p < xs.size:=by
     have:=(Array.getElem?_eq_some_iff.mp ex).1
     lia
    have:=Ai h (show p < p+i by lia) (Uu hps) ex
    have:=h3 p _ (Ua _) (Uu hps)
    lia
 rw[Xw]
 refine⟨hh.sublist (aac _ _),List.pairwise_cons.mpr ⟨hgt,hh.sublist (List.drop_sublist _ _)⟩,fun a ha b hb=>?_⟩
 rcases List.mem_cons.mp hb with rfl | hb
 ·exact hlt a ha
 ·exact abv (hlt a ha) (hgt b hb)
def rn (t:Yu)(j:Nat):Prop:=t.place[V9 t.place j]?≠some j
theorem sU {t:Yu}{j:Nat}(h:t.slot j = .empty∨t.slot j = .dummy):rn t j:=by
 intro e
 unfold SetTable.slot at h
 dsimp only at h
 rw[e,if_pos (by exact beq_self_eq_true _)] at h
 rcases h with h | h <;> cases h
theorem nj {t:Yu}{f:Nat->Int}{h:Int}:∀ (fuel:Nat) (p:SetTable.Probe) {j:Nat} {d:IH},(∀ x,p.dummy=some x->rn t x)->abr t f h fuel p=some (.empty j d)->rn t j/\∀ x,d=some x->rn t x
 | 0,_,_,_,_,e=>by rw[abr] at e;cases e
 | fuel+1,p,j,d,hd,e=>by
  rw[abr] at e
  have adv:∀ q:SetTable.Probe,(t.advance q).dummy=q.dummy:=fun q=>by
   unfold SetTable.advance
   split <;> rfl
  cases hs:t.slot p.j with
  | empty =>
   rw[hs] at e
   cases e
   exact⟨sU (.inl hs),hd⟩
  | dummy =>
   rw[hs] at e
   dsimp only at e
   refine nj fuel _ (fun x hx=>?_) e
   rw[adv] at hx
   cases hx
   exact sU (.inr hs)
  | live i =>
   rw[hs] at e
   dsimp only at e
   by_cases hc:(f i == h)=true
   ·rw[if_pos hc] at e
    cases e
   ·rw[if_neg hc] at e
    exact nj fuel _ (fun x hx=>by rw[adv] at hx;exact hd x hx) e
theorem yV {t:Yu}{h:Int}{j:Nat}{b:Bool}(e:t.freeSlot h=some (j,b)):rn t j:=by
 unfold SetTable.freeSlot SetTable.probe at e
 split at e
 ·rename_i j' d hp
  obtain⟨h1,h2⟩:=nj _ _ (fun x hx=>by cases hx) hp
  cases e
  cases d with
  | none=>exact h1
  | some x=>exact h2 x U
 ·cases e
structure TOk (b:Bool)(t:Yu):Prop where
 led:t.led=b
 ris:t.plain=true->Ris t.place
theorem Gz (b:Bool):TOk b (.fresh 0 0 b):=⟨U,fun _=>Ze⟩
theorem jg {b:Bool}{t:Yu}(h:TOk b t)(n:Nat):TOk b (t.standIn n):=⟨h.led,fun z=>by cases z⟩
theorem CT {b:Bool}{t:Yu}(h:TOk b t)(es:Array (Int × Value))(k:Int)(x:Value):TOk b (layNew t es k x).2.1:=by
 unfold layNew
 split
 ·rename_i slot wd e
  dsimp only
  unfold SetTable.orStandIn
  have ht:TOk b (t.put slot).1:=⟨h.led,fun z=>NB (h.ris z) (yV e)⟩
  split
  ·exact ht
  ·exact jg ht _
 ·exact jg h _
theorem J7 (owner:Array (IH)):∀ l:IP,l.Pairwise (· < ·)->((l.filterMap fun j=>(owner.getD j none).map (j,·)).map (·.1)).Pairwise (· < ·):=fun l hl=>by
 have hs:Zd ((l.filterMap fun j=>(owner.getD j none).map (j,·)).map (·.1)) l:=by
  induction l with
  | nil=>exact List.Sublist.slnil
  | cons a r ih =>
   have ih:=ih (List.pairwise_cons.mp hl).2
   rw[ZK]
   cases e:owner.getD a none with
   | none=>exact ih.cons _
   | some k=>exact ih.cons₂ _
 exact hl.sublist hs
theorem wy {b:Bool}{t:Yu}(h:TOk b t)(es:Array (Int × Value))(m:Nat):TOk b (abl t es m).2.1:=by
 unfold abl
 split
 ·rename_i t' order e
  dsimp only
  split
  ·unfold SetTable.relaid SetTable.laid at e
   cases ho:SetTable.layClean (SetTable.sizeAbove m - 1) (es.map (·.1)) with
   | none=>rw[ho] at e;cases e
   | some owner =>
    rw[ho] at e
    cases e
    exact⟨h.led,fun _=>J7 owner _ List.pairwise_lt_range⟩
  ·exact jg h _
 ·exact jg h _
end L2
namespace L2
open PySem PySem.Spec PyProof.Rows
section
variable {P:Uy}{w:Ve}{A:Vf}{E:Value->TF->Prop}{s:TF}
def m7 (P:Uy)(w:Ve)(b:Bool)(h:Vv)(a:Addr)(ks:IN):Prop :=
 ∃ o es ep t,h.get? a=some o/\o.ExactSet/\o.data = .set es ep t/\ElemsOf (Yx P w) es.toList/\t.fits es.size=true/\TOk b t/\∃ ns,Vn (es.toList.map (·.2)) ns/\ns.Perm ks
theorem gQ {l l':IF}(p:l.Perm l'):∀ {ns:IN},Vn l ns->∃ ms,Vn l' ms/\ms.Perm ns:=by
 induction p with
 | nil=>intro ns h;exact⟨ns,h,.refl _⟩
 | cons x p ih =>
  intro ns h
  cases h with
  | cons n t r =>
   obtain⟨ms,h1,h2⟩:=ih r
   exact⟨n::ms,.cons n t h1,h2.cons n⟩
 | swap x y l =>
  intro ns h
  cases h with
  | cons n t r =>
   cases r with
   | cons m u r=>exact⟨m::n::_,.cons m u (.cons n t r),.swap _ _ _⟩
 | trans p q ih1 ih2 =>
  intro ns h
  obtain⟨ms,h1,h2⟩:=ih1 h
  obtain⟨ks,h3,h4⟩:=ih2 h1
  exact⟨ks,h3,h4.trans h2⟩
theorem oA {k:Int}{t:Tok}:∀ {l:IF} {ns:IN},Vn l ns->Vn (l++[.int k t]) (ns++[k])
 | _,_,.nil=>.cons k t .nil
 | _,_,.cons n u r=>.cons n u (oA r)
theorem pY {k:Int}:∀ {l:IF} {ns:IN},Vn l ns->(k∈ns ↔ ∃ v∈l,(Yx P w).is k v=true)
 | _,_,.nil=>by simp
 | _,_,.cons n t r=>by
  have ih:=pY (k:=k) r
  have e:(Yx P w).is k (.int n t)=decide (k=n):=KeyKind.is_eq_decide (intKind_is _ _ _ _) k
  rw[VG,ih]
  constructor
  ·rintro (h | ⟨v,hv,q⟩)
   ·exact⟨_,TY,by rw[e];exact decide_eq_true h⟩
   ·exact⟨v,TX _ hv,q⟩
  ·rintro⟨v,hv,q⟩
   rcases List.mem_cons.mp hv with rfl | hv
   ·rw[e] at q
    exact .inl (of_decide_eq_true q)
   ·exact .inr ⟨v,hv,q⟩
theorem ou {b:Bool}{h:Vv}{a:Addr}{o:Xh}{es es':Array (Int × Value)}{ep:Nat}{t t':Yu}{ks:IN}(ho:h.get? a=some o)(hx:o.ExactSet)(hd:o.data = .set es ep t)
  (hel:ElemsOf (Yx P w) es'.toList) (hf:t'.fits es'.size=true) (tk:TOk b t') (hn:∃ ns,Vn (es'.toList.map (·.2)) ns/\ns.Perm ks) :
  (h.update a (abd es' t')).get? a=some { o with data:=.set es' (ep+1) t' }/\m7 P w b (h.update a (abd es' t')) a ks:=by
 have g:(h.update a (abd es' t')).get? a=some { o with data:=.set es' (ep+1) t' }:=by
  have q:=Vq (abd es' t') ho (by rw[putSet_of es' t' hd];rfl)
  rwa [putSet_of es' t' hd] at q
 exact⟨g,_,es',ep+1,t',g,hx,U,hel,hf,tk,hn⟩
theorem Nf {b:Bool}{a:Addr}{ks:IN}{k:Int}{t0:Tok}{Q:Bool->TF->Prop}(hS:m7 P w b s.heap a ks)(hroom:ks.length+1 < scanBound)
  (h:∀ h' r,WN a s.heap h'->m7 P w b h' a (step_dedup ks k)->Q r { s with heap:=h' }):Ug (Up P w) A (setAddHashed a (.int k t0) ((Yx P w).hash k)) Q E s:=by
 obtain⟨o,es,ep,t,ho,hx,hd,hel,hf,tk,ns,hi,hp⟩:=hS
 have key:(Yx P w).is k (.int k t0)=true:=intKind_is _ _ _ _
 have hlen:es.size=ks.length:=by
  rw[← hp.length_eq,← hi.length,Tw,Uv]
 have hb:es.size < scanBound:=by lia
 have hm:=pY (P:=P) (w:=w) (k:=k) hi
 unfold setAddHashed setAddHashedIn
 refine V5 (Tv (Yn ho hd hf ?_))
 dsimp only
 rw[byScan_of U hb hel]
 simp only[↓reduceIte]
 unfold setAddByScan
 refine Tv (Tv (Xg (Tv (wpAny_setScan_of key ho hd hf hel ?_))))
 cases hr:es.toList.findIdx? (fun e=>(Yx P w).is k e.2) with
 | some j =>
  dsimp only
  obtain⟨hj,q,_⟩:=List.findIdx?_eq_some_iff_getElem.mp hr
  have hk:k∈ks:=hp.mem_iff.mp (hm.mpr ⟨es.toList[j].2,List.mem_map.mpr ⟨_,VD hj,U⟩,q⟩)
  have es0:step_dedup ks k=ks:=by
   unfold step_dedup
   have hany:(ks.any fun x=>x == k)=true:=List.any_eq_true.mpr ⟨k,hk,beq_self_eq_true k⟩
   rw[if_pos hany]
  have q':=h s.heap false (Heap.SameBut.refl a s.heap) (by rw[es0];exact⟨o,es,ep,t,ho,hx,hd,hel,hf,tk,ns,hi,hp⟩)
  exact TV (TV q')
 | none =>
  dsimp only
  have hk:k ∉ ks:=fun z=>by
   obtain⟨v,hv,q⟩:=hm.mp (hp.mem_iff.mpr z)
   obtain⟨e,he,rfl⟩:=List.mem_map.mp hv
   rw[List.findIdx?_eq_none_iff.mp hr e he] at q
   cases q
  have es0:step_dedup ks k=ks++[k]:=by
   unfold step_dedup
   rw[if_neg]
   intro z
   obtain⟨x,hx',e⟩:=List.any_eq_true.mp z
   exact hk (by rw[← eq_of_beq e];exact hx')
  rw[es0] at h
  have pm:=layNew_perm t es ((Yx P w).hash k) (.int k t0)
  have ft:=layNew_fits t es ((Yx P w).hash k) (.int k t0)
  have tk1:=CT tk es ((Yx P w).hash k) (.int k t0)
  generalize layNew t es ((Yx P w).hash k) (.int k t0)=L at pm ft tk1 ⊢
  obtain⟨es1,t1,wd,gv⟩:=L
  dsimp only at pm ft tk1 ⊢
  rw[Array.toList_push] at pm
  have hel1:ElemsOf (Yx P w) es1.toList:=(hel.push key U).perm pm
  have hn1:∃ ns,Vn (es1.toList.map (·.2)) ns/\ns.Perm (ks++[k]):=by
   have i1:Vn ((es.toList++[((Yx P w).hash k,XR k t0)]).map (·.2)) (ns++[k]):=by
    rw[T9]
    exact oA hi
   obtain⟨ms,h1,h2⟩:=gQ (pm.symm.map (·.2)) i1
   exact⟨ms,h1,h2.trans (hp.append (.refl _))⟩
  have hs1:es1.size<=sizeLine:=by
   have:es1.size=es.size+1:=by rw[← Uv,pm.length_eq,Uh,Uv];rfl
   exact fits_of_scanBound (by lia)
  have gw:∀ (b:Bool) {s₁:TF} {Q':Unit->TF->Prop},Q' () s₁->Ug (Up P w) A (match b with | true=>rule "set.scan.the-table-gave-way" | false=>pure ()) Q' E s₁:=fun b s₁ Q' hq=>by
   cases b
   ·exact TV hq
   ·exact Xg hq
  have tail:∀ (g:Bool->Sem Unit) (R:IE->TF->Prop) (t2:Yu),(∀ (b:Bool) (s₁:TF) (Q':Unit->TF->Prop),Q' () s₁->Ug (Up P w) A (g b) Q' E s₁)->t2.fits es1.size=true->TOk b t2 →
    (∀ h',WN a s.heap h'->m7 P w b h' a (ks++[k])->R (some true) { s with heap:=h' })->Ug (Up P w) A (do
    storeSet a es1 t2
    if (!wd && t2.tooFull)=true then do
      g (abl t2 es1 (Yt es1.size)).2.2
      storeSet a (abl t2 es1 (Yt es1.size)).1 (abl t2 es1 (Yt es1.size)).2.1
      pure (some true)
     else pure (some true)) R E s:=fun g R t2 hg f2 k2 hR=>by
   refine Tv (wpAny_storeSet_of ho hd ?_ hs1)
   obtain⟨ho1,hS1⟩:=ou (P:=P) (w:=w) ho hx hd hel1 f2 k2 hn1
   have sb1:=VL s.heap a (abd es1 t2)
   split
   ·have pr:=relayAll_perm t2 es1 (Yt es1.size)
    have fr:=relayAll_fits t2 es1 (Yt es1.size)
    have tr:=wy k2 es1 (Yt es1.size)
    generalize abl t2 es1 (Yt es1.size)=R at pr fr tr ⊢
    obtain⟨es2,t3,g2⟩:=R
    dsimp only at pr fr tr ⊢
    have hn2:∃ ns,Vn (es2.toList.map (·.2)) ns/\ns.Perm (ks++[k]):=by
     obtain⟨ns1,i1,p1⟩:=hn1
     obtain⟨ms,h1,h2⟩:=gQ (pr.symm.map (·.2)) i1
     exact⟨ms,h1,h2.trans p1⟩
    have hs2:es2.size<=sizeLine:=by
     have:es2.size=es1.size:=by rw[← Uv,pr.length_eq,Uv]
     lia
    refine Tv (hg _ _ _ (Tv (wpAny_storeSet_of ho1 U ?_ hs2)))
    obtain⟨_,hS2⟩:=ou (P:=P) (w:=w) ho1 hx U (hel1.perm pr) fr tr hn2
    exact TV (hR _ (sb1.trans (VL _ a _)) hS2)
   ·exact TV (hR _ sb1 hS1)
  refine Tv (gw _ ?_)
  split
  ·refine Tv ?_
   rw[hashByValue_scannable 8 U]
   refine TV (tail _ _ _ (fun b s₁ Q' hq=>gw b hq) ?_ ?_ fun h' sb hS=>TV (h h' true sb hS))
   ·exact ft
   ·exact tk1
  ·exact Tv (TV (tail _ _ _ (fun b s₁ Q' hq=>gw b hq) ft tk1 fun h' sb hS=>TV (h h' true sb hS)))
end
theorem nH {P:Uy}{w:Ve}{b:Bool}{h h':Vv}{a:Addr}{ks:IN}(hk:∀ o,h.get? a=some o->h'.get? a=some o)(hS:m7 P w b h a ks):m7 P w b h' a ks:=by
 obtain⟨o,es,ep,t,ho,r⟩:=hS
 exact⟨o,es,ep,t,hk o ho,r⟩
section
variable {P:Uy}{w:Ve}{A:Vf}{R:abb->TF->Prop}{I:Addr}{fp wr:List Addr}{G:Array GenState->Array GenState->Prop}{n:Nat}{Pv:Nat->Value->Prop}{St:Nat->TF->Prop}{b:Bool}
theorem J2 (W:WalksS P w A.in1 I fp wr G n Pv St)(S:Addr)(hS:S ∉ fp)(val:Nat->Int)(hv:∀ i v,Pv i v->∃ t,v = .int (val i) t)(hb:n+1 < scanBound) :
  ∀ (k i:Nat) (s:TF),n - i=k->i<=n->St i s->m7 P w b s.heap S (firstMet val i)->(∀ s',Moved (S::wr) G s s'->m7 P w b s'.heap S (firstMet val n)->R (.ok (.ret .none)) s') →
   WL (Up P w) A (.builtin "set.update.loop" ⟨[.ref S,.ref I],[]⟩) R s:=by
 have nw:S ∉ wr:=fun z=>hS (W.sub _ z)
 have sub:∀ x∈wr,x∈S::wr:=fun x hx=>TX _ hx
 intro k
 induction k with
 | zero =>
  intro i s hk hi st hs hR
  obtain rfl:i=n:=by lia
  refine V8 F.entry_set_update_loop ?_
  rw[VN aat _]
  refine (show Ug _ A.in1 (W7 (.ref I) >>= _) _ _ s from Tv (W.done s _ _ st fun s' hm=>?_))
  exact (show Ug _ A.in1 (ret U0) _ _ s' from TV (hR s' (hm.mono sub) (nH (fun o e=>hm.heap S o nw e) hs)))
 | succ k ih =>
  intro i s hk hi st hs hR
  have lt:i < n:=by lia
  refine V8 F.entry_set_update_loop ?_
  rw[VN aat _]
  refine (show Ug _ A.in1 (W7 (.ref I) >>= _) _ _ s from Tv (W.item i s _ _ lt st fun v s' hP st' hm=>?_))
  obtain⟨t,rfl⟩:=hv i v hP
  have hs':=nH (h':=s'.heap) (fun o e=>hm.heap S o nw e) hs
  have room:(firstMet val i).length+1 < scanBound:=by
   have:=firstMet_length_le val i
   lia
  refine (show Ug _ A.in1 (abm [XR (val i) t] (setAdd S (.int (val i) t)) >>= _) _ _ s' from Tv (V5 ?_))
  unfold setAdd
  refine V5 (Tv ((Yx P w).pyHash (k:=val i) (intKind_is _ _ _ _) ?_))
  refine Nf (s:={ s' with toks:=s'.toks+1 }) hs' room fun h' r sb hn=>?_
  rw[← firstMet_succ] at hn
  refine TV ⟨Wo aat _,ih (i+1) _ (by lia) lt (W.frame _ s' _ _ st' (WT _) fun x hx o e=>?_) hn fun s'' hm'' hs''=>?_⟩
  ·rw[sb.2 x (fun z:x=S=>hS (by rw[← z];exact hx))]
   exact e
  ·refine hR s'' (Moved.trans W.gtrans ((hm.mono sub).then_heap (WT _) fun x o hx e=>?_) hm'') hs''
   rw[sb.2 x (fun z:x=S=>hx (by rw[z];exact TY))]
   exact e
end
section
variable {P:Uy}{w:Ve}{A:Vf}{E:Value->TF->Prop}{s:TF}
def JV (w:Ve):Bool:=!w.params.followText "set-order"
def newS (w:Ve):Xh:={ cls:=.type "set",dict:=none,data:=.set #[] 0 (.fresh 0 0 (JV w)) }
theorem Oq (a:Value){Q₁:Ix}(h:Q₁ (.ref s.heap.objs.size) { s with heap:=s.heap.push (newS w) }) :
  WL (Up P w) A (.call (.builtin "set.__new__") ⟨[.type "set",a],[]⟩) (wants Q₁ E) s:=by
 refine ab3 (show Ug _ A.in1 (do abM "set.__new__" ⟨[.type "set",a],[]⟩;again (.builtin "set.__new__" ⟨[.type "set",a],[]⟩)) _ _ s from ?_)
 refine Tv (W6 (PySem.F.newCall_set_1 a) (TV ⟨Wo PySem.F.plain_set_new _,V8 PySem.F.entry_set_new ?_⟩))
 rw[VN PySem.F.plain_set_new _]
 unfold Builtin.«set.__new__» Builtin.Frozenset.newClass;have hsub:=sub_set_self;obtain⟨hp,g,d,tk,os⟩:=s
 dsimp only
 wp_walk
 refine XM (TV ?_)
 dsimp only
 simp only[newObj];refine Tv (wpAny_alloc (TV ?_))
 exact TV h
end
section
variable {P:Uy}{w:Ve}{A:Vf}{E:Value->TF->Prop}{s:TF}
set_option maxRecDepth 100000 in
set_option maxHeartbeats 3200000 in
theorem yL {l:Addr}{items:Array Value}{ns:IN}{Q:Ix}(hh:A.handled=none)(hl:s.heap.IsList l items)(hi:Vn items.toList ns)(hb:items.size+1 < scanBound)
  (h:∀ (h':Vv) (tk:Nat),m7 P w (JV w) h' s.heap.objs.size (firstMet (fun i=>ns.getD i 0) items.size)->(∀ b o,b < s.heap.objs.size->s.heap.get? b=some o->h'.get? b=some o)->Q (.ref s.heap.objs.size) { s with heap:=h',toks:=tk }) :
  Ug (Up P w) A (call (.type "set") [.ref l]) Q E s:=by
 obtain⟨c,tl,hmro⟩:=PySem.F.called_set.mro
 have hmade:=PySem.F.called_set.made
 have hsub:=PySem.F.called_set.sub
 refine wpAny_call (ab3 (show Ug _ _ (callAny (.type "set") _) _ _ _ from TV ⟨Code.quiet_builtin _ (by decide+kernel),V8 PySem.F.entry_type_call ?_⟩))
 rw[Around.under_plain (weight_type_call_type "set" [.ref l] []) U]
 have h1:=PySem.F.called_set.notType
 have h2:=PySem.F.called_set.canCreate
 have hct:=PySem.F.typeCall_set_1 (.ref l)
 repeat (any_goals (first | assumption | wp_step))
 refine ZP (Oq (.ref l) (E:=E) (Q₁:=fun obj s₁=>obj = .ref s.heap.objs.size/\s₁={ s with heap:=s.heap.push (newS w) }) ⟨U,U⟩) fun r s₁ hr=>?_
 cases r with
 | error e=>exact hr
 | ok fl =>
  cases fl with
  | ret obj =>
   obtain⟨rfl,rfl⟩:=hr
   have gS:(s.heap.push (newS w)).get? s.heap.objs.size=some (newS w):=Ub _ U
   have hT:Shared.TypeIs { s with heap:=s.heap.push (newS w) } (.ref s.heap.objs.size) "set":=⟨_,gS,U⟩
   have hli:=PySem.F.called_set.init.lookup
   have hbi:=PySem.F.called_set.init.bind (.ref s.heap.objs.size)
   repeat (any_goals (first | assumption | wp_step))
   refine ZP (codeAny_call_builtin (R:=wants (fun r s₂=>r = .none/\∃ h' tk,s₂={ s with heap:=h',toks:=tk }/\m7 P w (JV w) h' s.heap.objs.size (firstMet (fun i=>ns.getD i 0) items.size) ∧
     (∀ b o,b < s.heap.objs.size->s.heap.get? b=some o->h'.get? b=some o)) E) PySem.F.called_set.init.plain PySem.F.entry_set_init (check_set_init_1 hT ?_)) fun r₂ s₂ hr₂=>?_
   ·obtain⟨ol,hol,hcl,nl,hdl⟩:=hl
    obtain⟨ocls,odict,odata,oslots⟩:=ol
    simp only at hcl hdl
    subst hcl hdl
    have hol':(s.heap.push (newS w)).get? l=some { cls:=.type "list",dict:=odict,data:=.seq items nl,slots:=oslots }:=Tz _ hol
    have hsls:=PySem.F.sub_list_set
    have hslf:=PySem.F.sub_list_frozenset
    have hne:(X7 "list" == X7 "dict")=false:=by decide
    have hl1:(s.heap.push (newS w)).IsList l items:=⟨_,hol',U,nl,U⟩
    have gS':(s.heap.push (newS w)).get? s.heap.objs.size=some { cls:=.type "set",dict:=none,data:=.set #[] 0 (.fresh 0 0 (JV w)) }:=gS
    unfold Builtin.«set.__init__» noKeywords Builtin.Frozenset.updateFrom;generalize hPI:aaT=PI
    wp_walk
    subst hPI
    refine Xr hl1 (Tv (wpAny_runValue ?_))
    have hlS:l < s.heap.objs.size:=Uk hol
    have hh3:A.in1.in1.in1.handled=none:=by simp [hh]
    have hneI:l≠(s.heap.push (newS w)).objs.size:=by
     rw[Vt]
     exact Uq (Vi hlS)
    have hSf:s.heap.objs.size ∉ [(s.heap.push (newS w)).objs.size,l]:=by
     rw[Vt,VG,WY]
     rintro (z | z)
     ·exact absurd z (Uq (Wb _))
     ·exact absurd z (Wg hlS)
    refine J2 (b:=JV w) ((aa9 hh3 _ l hneI items).toS) s.heap.objs.size hSf (fun i=>ns.getD i 0) (fun i v hv=>IntsAre.int_at hi i v (by rw[Vk];exact hv)) hb (items.size - 0) 0 _ (by lia) (Uw _)
     ⟨⟨_,Ub _ U,U,U⟩,(hl1.push _)⟩ ?hS0 ?hR
    case hS0=>exact⟨newS w,#[],0,_,Tz _ gS,⟨U,U,U⟩,U,(fun e he=>by simp at he),U,Gz _,[],.nil,.refl _⟩
    case hR =>
     intro s' hm hS'
     obtain⟨h',g',d',tk',os'⟩:=s'
     obtain rfl:g'=s.gens:=hm.gens
     obtain rfl:d'=s.drawn:=hm.drawn
     obtain rfl:os'=s.os:=hm.os
     refine (show Ug _ _ _ _ _ _ from TV (show Ug _ _ (ret U0) _ _ _ from TV ⟨U,h',tk',U,hS',fun b o hb e=>?_⟩))
     refine hm.heap b o ?_ (Tz _ (Tz _ e))
     rw[VG,WY,Vt]
     rintro (z | z)
     ·exact absurd z (Uq hb)
     ·exact absurd z (Uq (Vi hb))
   ·cases r₂ with
    | error e=>exact hr₂
    | ok fl₂ =>
     cases fl₂ with
     | ret r =>
      obtain⟨rfl,h',tk,rfl,hS',hk'⟩:=hr₂
      repeat (any_goals (first | assumption | wp_step))
      exact h h' tk hS' hk'
     | _=>exact hr₂.elim
  | _=>exact hr.elim
end
theorem xJ:Manifest.owners.lookup (String.ofList ['r','o','t','a','r','e','t','i','_','t','e','s'].reverse)=some Manifest.sig_set_iterator:=by kernel_rfl
theorem bC:Slot "set_iterator" "__next__" "set_iterator.__next__" :=
 .of (owner:="set_iterator") (n:="__next__") (by rw[YL,Xi];kernel_rfl) (by decide+kernel) (by decide+kernel) (by decide+kernel) (by first | exact .inl (by decide+kernel) | exact .inr (by decide+kernel)) (by rw[XN];kernel_rfl)
theorem fD:entryFor table "set_iterator.__next__" = some Builtin.«set_iterator.__next__»:=entryFor_of_tree (by kernel_rfl)
theorem fV (a:Value):Zy "set_iterator.__next__" ⟨[a],[]⟩:=by
 unfold Zy
 rw[aai (id:="set_iterator.__next__") (n:=['_','_','t','x','e','n','_','_']) (o:=['r','o','t','a','r','e','t','i','_','t','e','s']) (by kernel_rfl) xJ]
 kernel_rfl
theorem jE:Slot "set_iterator" "__iter__" "set_iterator.__iter__" :=
 .of (owner:="set_iterator") (n:="__iter__") (by rw[YL,Xi];kernel_rfl) (by decide+kernel) (by decide+kernel) (by decide+kernel) (by first | exact .inl (by decide+kernel) | exact .inr (by decide+kernel)) (by rw[XN];kernel_rfl)
theorem o4:entryFor table "set_iterator.__iter__" = some Builtin.«dict_keyiterator.__iter__»:=entryFor_alias (id':="dict_keyiterator.__iter__") (by kernel_rfl) U (by decide+kernel) (by kernel_rfl)
theorem qi (a:Value):Zy "set_iterator.__iter__" ⟨[a],[]⟩:=by
 unfold Zy
 rw[aai (id:="set_iterator.__iter__") (n:=['_','_','r','e','t','i','_','_']) (o:=['r','o','t','a','r','e','t','i','_','t','e','s']) (by kernel_rfl) xJ]
 kernel_rfl
theorem qF:entryFor table "set.__iter__" = some Builtin.«frozenset.__iter__»:=entryFor_alias (id':="frozenset.__iter__") (by kernel_rfl) U (by decide+kernel) (by kernel_rfl)
theorem nP {α:Type}:∀ (l:List α) (j:Nat) (h:j < l.length),(l[j]::l.eraseIdx j).Perm l
 | a::r,0,_=>.refl _
 | a::r,j+1,h=>by
  have ih:=nP r j (aaz h)
  rw[List.getElem_cons_succ,List.eraseIdx_cons_succ]
  exact (List.Perm.swap _ _ _).trans (ih.cons a)
theorem wV {α:Type}(nx:Nat->Nat):∀ (fuel k:Nat) (left:List α) (out:Array α),left.length<=fuel->(pickOrder.go nx fuel k left out).toList.Perm (out.toList++left)
 | 0,k,left,out,h=>by
  rw[pickOrder.go]
  have e:left=[]:=Zv (by lia)
  subst e
  rw[Wa]
 | fuel+1,k,left,out,h=>by
  rw[pickOrder.go]
  cases hl:left with
  | nil =>
   simp
  | cons a r =>
   have hlen:nx k % (a::r).length < (a::r).length:=Nat.mod_lt _ (by simp)
   rw[TJ hlen]
   dsimp only
   generalize nx k % (a::r).length=j at hlen ⊢
   have ih:=wV nx fuel (k+1) ((a::r).eraseIdx j) (out.push (a::r)[j]) (by rw[List.length_eraseIdx_of_lt hlen,← hl];lia)
   refine ih.trans ?_
   rw[Array.toList_push,Wk]
   refine List.Perm.append (.refl _) ?_
   show ((a::r)[j]::(a::r).eraseIdx j).Perm (a::r)
   exact nP _ j hlen
theorem ql {α:Type}(nx:Nat->Nat)(xs:Array α):(Zi nx xs).toList.Perm xs.toList:=by
 unfold Zi
 have:=wV nx xs.size 0 xs.toList #[] (by rw[Uv];exact Ua _)
 simpa using this
section
variable {P:Uy}{w:Ve}{A:Vf}{E:Value->TF->Prop}{s:TF}
theorem wL {α:Type}{Q:List α->TF->Prop}:∀ (n:Nat) (xs:List α) (s:TF),xs.length=n->(∀ ys d,ys.Perm xs->Q ys { s with drawn:=d })->Ug (Up P w) A (drawOrder n xs) Q E s
 | 0,xs,s,h,hq=>by
  rw[drawOrder]
  have e:xs=[]:=Zv h
  subst e
  exact TV (hq [] s.drawn (.refl _))
 | n+1,[],s,h,hq=>by cases h
 | n+1,x::xs,s,h,hq=>by
  rw[drawOrder]
  ·refine Tv (fun Γ p hΓ=>?_)
   show Sem.wp _ _ (.choose .order (x::xs).length .pure) _ _ _ _
   rw[Sem.wp_choose]
   refine⟨by simp,?_⟩
   rw[Sem.wp_pure]
   generalize (Up P w).w.draws .order (s.drawn.get .order)=z
   have hlen:z % (x::xs).length < (x::xs).length:=Nat.mod_lt _ (by simp)
   generalize z % (x::xs).length=j at hlen ⊢
   show Ug _ _ _ _ _ _
   rw[TJ hlen]
   dsimp only
   refine Tv (wL n ((x::xs).eraseIdx j) _ (by rw[List.length_eraseIdx_of_lt hlen];rw[Um] at h ⊢;lia) fun ys d p=>TV ?_)
   exact hq _ d ((p.cons _).trans (nP _ j hlen))
  ·simp
end
def SIt (h:Vv)(I S:Addr)(f:Value)(i n ep:Nat):Prop:=h.get? I=some { cls:=.type "set_iterator",dict:=none,data:=.fields #[f,.int i 0,.ref S,.int n 0,.int ep 0],slots:=#[] }
section
variable {P:Uy}{w:Ve}{A:Vf}{E:Value->TF->Prop}{s:TF}{I S:Addr}{o:Xh}{es:Array (Int × Value)}{ep:Nat}{t:Yu}
theorem tL {sl:Int}{tk:Tok}{i:Nat}{Q:IC->TF->Prop}{r:HM}(hh:A.handled=none)(hI:SIt s.heap I S (.int sl tk) i es.size ep)(hS:s.heap.get? S=some o)(hd:o.data = .set es ep t)(hf:t.fits es.size=true)
  (hn:∀ (A:Vf) (E:Ix) (Q:HM->TF->Prop),Q r s->Ug (Up P w) A (aca S sl.toNat i ep) Q E s)
  (hs:∀ x j h',r=some (x,j)->SIt h' I S (.int (j:Nat) 0) (i+1) es.size ep->WN I s.heap h'->Q (some x) { s with heap:=h' }) (he:∀ h',r=none->Heap.ExtBut I s.heap h'->Q none { s with heap:=h' }):Ug (Up P w) A (W7 (.ref I)) Q E s:=by
 have hT:s.TypeIs (.ref I) "set_iterator":=⟨_,hI,U⟩
 unfold W7
 refine Tv (W3 (Vx (name:=WM "__next__") hT bC (Vu bC hT fD ?_ (fV _))))
 refine (show Ug _ _ (fieldsOf (.ref I) >>= _) _ _ s from Tv (wpAny_fieldsOf hI U ?_))
 refine (show Ug _ _ (setEntries S >>= _) _ _ s from Tv (ZF hS hd hf ?_))
 rw[if_neg (by simp)]
 refine (show Ug _ _ (aca S sl.toNat (i:Int).toNat (ep:Int).toNat >>= _) _ _ s from Tv ?_)
 rw[UL,UL]
 refine hn _ _ _ ?_
 cases hr:r with
 | some xj =>
  obtain⟨x,j⟩:=xj
  dsimp only
  refine Tv (WK hI U (by simp) ?_)
  have g1:=Vq (Zq (·.setIfInBounds 0 (V2 (j:Int)))) hI U
  refine Tv (WK g1 U (by simp) ?_)
  have g2:=Vq (Zq (·.setIfInBounds 1 (V2 ((i:Int)+1)))) g1 U
  refine TV ⟨x,U,TV (hs x j _ hr ?_ ((VL ..).trans (VL ..)))⟩
  exact g2
 | none =>
  dsimp only
  refine Tv (WK hI U (by simp) ?_)
  refine (show Ug _ _ (abL (.type "StopIteration") [] >>= _) _ _ _ from Tv ?_)
  simp only[abL,newTuple]
  refine Tv (Vc ?_ (by size_fits))
  refine Tv (m:=XQ _ _) (W6 (a:=U0) (by first | rfl | (simp only[XQ];rfl)) (Vc ?_ (by size_fits)))
  simp only[raiseNew]
  refine Tv (aa3 ?_)
  first | rw[show A.in1.handled=none from hh] | rw[hh]
  refine Tv (TV (abW ?_))
  refine Tv (XJ (T:="StopIteration") (b:=true) ⟨_,Ub _ U,U⟩ ZX (TV ?_))
  exact he _ hr (((VL ..).extBut.push _).push _)
end
section
variable {P:Uy}{w:Ve}{A:Vf}{E:Value->TF->Prop}{s:TF}{I S:Addr}{o:Xh}{es:Array (Int × Value)}{ep:Nat}{t:Yu}
theorem vU {sl i:Nat} {Q:HM->TF->Prop} (hb:w.params.followText "set-order" = true) (hS:s.heap.get? S=some o) (hd:o.data = .set es ep t) (hf:t.fits es.size=true)
  (h:Q (((Zi (w.params.setOrder S ep) es)[i]?).map fun e=>(e.2,sl)) s):Ug (Up P w) A (aca S sl i ep) Q E s:=by
 unfold aca
 refine Tv (Yn hS hd hf ?_)
 dsimp only
 unfold setsByText
 refine Tv (Tv (XM (TV ?_)))
 rw[if_pos (show (Up P w).w.params.followText "set-order" = true from hb),if_neg (by simp)]
 unfold setWalk
 refine Tv (Tv (Yn hS hd hf ?_))
 dsimp only
 unfold setsByText
 refine Tv (Tv (XM (TV ?_)))
 rw[if_pos (show (Up P w).w.params.followText "set-order" = true from hb)]
 exact Tv (XM (TV (TV h)))
theorem sJ {sl i:Nat} {Q:HM->TF->Prop} (hb:w.params.followText "set-order" = false) (hS:s.heap.get? S=some o) (hd:o.data = .set es ep t) (hf:t.fits es.size=true) (hl:t.led=true)
  (hp:t.plain=true∨es.size<=1) (hi:V9 t.place sl=i)
  (h:Q (match es[i]?,t.place[i]? with | some (_,x),some j=>some (x,j+1) | _,_=>none) s):Ug (Up P w) A (aca S sl i ep) Q E s:=by
 unfold aca
 refine Tv (Yn hS hd hf ?_)
 dsimp only
 unfold setsByText
 refine Tv (Tv (XM (TV ?_)))
 rw[if_neg (show ¬ (Up P w).w.params.followText "set-order" = true by rw[show (Up P w).w.params.followText "set-order" = false from hb];exact Uc)]
 have hdr:(!t.plain && decide (es.size > 1))=false:=by
  rcases hp with q | q
  ·rw[q]
   rfl
  ·rw[decide_eq_false (by lia),Bool.and_false]
 refine Xk (show decide ((!t.plain && decide (es.size > 1))=true)=false from decide_eq_false (by rw[hdr];exact Uc)) ?_
 refine Tv (show Ug _ _ (if (!t.led && !es.isEmpty)=true then abX "set:maker-not-led" else pure ()) _ _ _ from ?_)
 rw[hl]
 refine Xk (decide_eq_false (by simp)) (TV (TV ?_))
 rw[hi]
 exact h
theorem tY {f:Value}{i n:Nat}{Q:Ix}(hI:SIt s.heap I S f i n ep)(h:Q (.ref I) s):Ug (Up P w) A (aaT (.ref I)) Q E s:=by
 have hT:s.TypeIs (.ref I) "set_iterator":=⟨_,hI,U⟩
 refine abh hT jE (Vu jE hT o4 (show Ug _ _ (ret (.ref I)) _ _ s from ?_) (qi _))
 exact TV ⟨_,U,"set_iterator",_,hT,bC.lookup,h⟩
theorem Em (hh:A.handled=none) (hne:S≠I) (hb:w.params.followText "set-order" = true) (hd:o.data = .set es ep t) (hf:t.fits es.size=true) :
  Walks P w A I [I,S] [I] es.size (fun i v=>((Zi (w.params.setOrder S ep) es).toList.map (·.2))[i]? = some v) (fun i h=>(∃ (sl:Nat) (tk:Tok),SIt h I S (.int (sl:Int) tk) i es.size ep)/\h.get? S=some o) where
 sub:=fun b hb=>by simp at hb;simp [hb]
 frame:=fun i h h' st hk=>by
  obtain⟨⟨sl,tk,hI⟩,hS⟩:=st
  exact⟨⟨sl,tk,hk I (by simp) _ hI⟩,hk S (by simp) _ hS⟩
 item:=fun i s Q E hi st hQ=>by
  obtain⟨⟨sl,tk,hI⟩,hS⟩:=st
  have pl:(Zi (w.params.setOrder S ep) es).size=es.size:=by
   have:=(ql (w.params.setOrder S ep) es).length_eq
   simpa using this
  have hx:(Zi (w.params.setOrder S ep) es)[i]? = some ((Zi (w.params.setOrder S ep) es)[i]'(by lia)):=Uu _
  generalize (Zi (w.params.setOrder S ep) es)[i]'(by lia)=x at hx
  refine tL (r:=some (x.2,sl)) hh hI hS hd hf (fun A E Q q=>?_) (fun v j h' hr hI' sb=>?_) (fun h' hr _=>by cases hr)
  ·refine vU hb hS hd hf ?_
   rw[UL,hx]
   exact q
  ·cases hr
   refine hQ _ h' s.toks ?_ ⟨⟨sl,0,hI'⟩,sb.2 S hne▸hS⟩ fun b o' hb' e=>?_
   ·rw[Uo,Vk,hx]
    rfl
   ·rw[sb.2 b (fun z=>hb' (by rw[z];exact List.mem_singleton.mpr U))]
    exact e
 done:=fun s Q E st hQ=>by
  obtain⟨⟨sl,tk,hI⟩,hS⟩:=st
  have pl:(Zi (w.params.setOrder S ep) es).size=es.size:=by
   have:=(ql (w.params.setOrder S ep) es).length_eq
   simpa using this
  refine tL (r:=none) hh hI hS hd hf (fun A E Q q=>?_) (fun v j h' hr=>by cases hr) (fun h' _ hx=>?_)
  ·refine vU hb hS hd hf ?_
   rw[Ye (by lia)]
   exact q
  ·exact hQ h' s.toks fun b o' hb' e=>hx b o' (fun z=>hb' (by rw[z];exact List.mem_singleton.mpr U)) e
 self:=fun i s Q E st hQ=>by
  obtain⟨⟨sl,tk,hI⟩,_⟩:=st
  exact tY hI hQ
def slotAt (pl:Array Nat):Nat->Nat
 | 0=>0
 | i+1=>pl.getD i 0+1
theorem oE {pl:Array Nat}(h:Ris pl):∀ {i:Nat},i<=pl.size->V9 pl (slotAt pl i)=i
 | 0,_=>Dp h
 | i+1,hi=>by
  have e:pl[i]? = some (pl.getD i 0):=by
   rw[Uu (by lia),Wf,Uu (by lia)]
   rfl
  exact below_at h e
theorem Dh (hh:A.handled=none) (hne:S≠I) (hb:w.params.followText "set-order" = false) (hd:o.data = .set es ep t) (hf:t.fits es.size=true) (hl:t.led=true) (hp:t.plain=true∨es.size<=1) (hr:Ris t.place) :
  Walks P w A I [I,S] [I] es.size (fun i v=>(es.toList.map (·.2))[i]? = some v) (fun i h=>(∃ tk:Tok,SIt h I S (.int (slotAt t.place i:Nat) tk) i es.size ep)/\h.get? S=some o) where
 sub:=fun b hb=>by simp at hb;simp [hb]
 frame:=fun i h h' st hk=>by
  obtain⟨⟨tk,hI⟩,hS⟩:=st
  exact⟨⟨tk,hk I (by simp) _ hI⟩,hk S (by simp) _ hS⟩
 item:=fun i s Q E hi st hQ=>by
  obtain⟨⟨tk,hI⟩,hS⟩:=st
  have ps:t.place.size=es.size:=by
   simp only[SetTable.fits,Wc,beq_iff_eq] at hf
   exact hf.1
  have hx:es[i]? = some es[i]:=Uu hi
  have hj:t.place[i]? = some (t.place.getD i 0):=by
   rw[Uu (by lia),Wf,Uu (by lia)]
   rfl
  generalize es[i]=x at hx
  obtain⟨k,v⟩:=x
  refine tL (r:=some (v,t.place.getD i 0+1)) hh hI hS hd hf (fun A E Q q=>?_) (fun u j h' hr hI' sb=>?_) (fun h' hr _=>by cases hr)
  ·refine sJ hb hS hd hf hl hp (i:=i) (by rw[UL];exact oE hr (by lia)) ?_
   rw[hx,hj]
   exact q
  ·cases hr
   refine hQ _ h' s.toks ?_ ⟨⟨0,hI'⟩,sb.2 S hne▸hS⟩ fun b o' hb' e=>?_
   ·rw[Uo,Vk,hx]
    rfl
   ·rw[sb.2 b (fun z=>hb' (by rw[z];exact List.mem_singleton.mpr U))]
    exact e
 done:=fun s Q E st hQ=>by
  obtain⟨⟨tk,hI⟩,hS⟩:=st
  have ps:t.place.size=es.size:=by
   simp only[SetTable.fits,Wc,beq_iff_eq] at hf
   exact hf.1
  refine tL (r:=none) hh hI hS hd hf (fun A E Q q=>?_) (fun v j h' hr=>by cases hr) (fun h' _ hx=>?_)
  ·refine sJ hb hS hd hf hl hp (i:=es.size) (by rw[UL];exact oE hr (by lia)) ?_
   rw[Ye (Ua _)]
   exact q
  ·exact hQ h' s.toks fun b o' hb' e=>hx b o' (fun z=>hb' (by rw[z];exact List.mem_singleton.mpr U)) e
 self:=fun i s Q E st hQ=>by
  obtain⟨⟨tk,hI⟩,_⟩:=st
  exact tY hI hQ
end
section
variable {P:Uy}{w:Ve}{A:Vf}{E:Value->TF->Prop}{s:TF}{I S T:Addr}{o:Xh}{es:Array (Int × Value)}{ep:Nat}{t:Yu}
def dz (pl:IP):IF:=pl.map fun j:Nat=>V2 (j:Int)
theorem CP {pl:IP}(hh:A.handled=none)(hne:S≠I)(hnt:T≠I)(hd:o.data = .set es ep t)(hf:t.fits es.size=true)(hp:pl.Perm (Ui es.size)) :
  Walks P w A I [I,S,T] [I] es.size (fun i v=>(pl.map fun j=>(es.getD j (0,.none)).2)[i]? = some v) (fun i h=>SIt h I S (.ref T) i es.size ep/\h.get? S=some o/\h.IsTuple T (dz pl).toArray) where
 sub:=fun b hb=>by simp at hb;simp [hb]
 frame:=fun i h h' st hk=>by
  obtain⟨hI,hS,o',ho',r⟩:=st
  exact⟨hk I (by simp) _ hI,hk S (by simp) _ hS,o',hk T (by simp) _ ho',r⟩
 item:=fun i s Q E hi st hQ=>by
  obtain⟨hI,hS,hT⟩:=st
  have lp:pl.length=es.size:=by rw[hp.length_eq,UJ]
  have hT0:s.TypeIs (.ref I) "set_iterator":=⟨_,hI,U⟩
  obtain⟨j,hj⟩:∃ j,pl[i]? = some j:=⟨pl[i],TJ (by lia)⟩
  have hj2:j < es.size:=List.mem_range.mp (hp.mem_iff.mp (Ud hj))
  have hx:es[j]? = some (es.getD j (0,.none)):=by
   rw[Uu hj2,Wf,Uu hj2]
   rfl
  obtain⟨ot,hot,hct,nt,hdt⟩:=id hT
  unfold W7
  refine Tv (W3 (Vx (name:=WM "__next__") hT0 bC (Vu bC hT0 fD ?_ (fV _))))
  refine (show Ug _ _ (fieldsOf (.ref I) >>= _) _ _ s from Tv (wpAny_fieldsOf hI U ?_))
  refine (show Ug _ _ (setEntries S >>= _) _ _ s from Tv (ZF hS hd hf ?_))
  rw[if_neg (by simp)]
  refine (show Ug _ _ (aaq (.ref T) >>= _) _ _ s from Tv (VH hot hdt ?_))
  have hpl:(dz pl).toArray[(i:Int).toNat]? = some (.int (j:Int) 0):=by
   rw[UL,Zf]
   show (pl.map fun j:Nat=>V2 (j:Int))[i]? = _
   rw[Uo,hj]
   rfl
  dsimp only
  rw[hpl]
  dsimp only
  refine Tv (show Ug _ _ (setNextDrawn S (j:Int).toNat (ep:Int).toNat) _ _ _ from ?_)
  unfold setNextDrawn
  refine Tv (Yn hS hd hf ?_)
  dsimp only
  rw[UL,UL,if_neg (by simp),hx]
  refine TV (Tv (WK hI U (by simp) ?_))
  have g1:=Vq (Zq (·.setIfInBounds 1 (V2 ((i:Int)+1)))) hI U
  refine TV ⟨_,U,TV (hQ _ _ s.toks ?_ ⟨g1,?_,?_⟩ fun b o' hb' e=>?_)⟩
  ·rw[Uo,hj]
   rfl
  ·rw[Vm _ _ (Xd hne)]
   exact hS
  ·exact⟨ot,by rw[Vm _ _ (Xd hnt)];exact hot,hct,nt,hdt⟩
  ·rw[Vm _ _ (fun z:I=b=>hb' (by rw[z];exact List.mem_singleton.mpr U))]
   exact e
 done:=fun s Q E st hQ=>by
  obtain⟨hI,hS,hT⟩:=st
  have lp:pl.length=es.size:=by rw[hp.length_eq,UJ]
  have hT0:s.TypeIs (.ref I) "set_iterator":=⟨_,hI,U⟩
  obtain⟨ot,hot,hct,nt,hdt⟩:=id hT
  unfold W7
  refine Tv (W3 (Vx (name:=WM "__next__") hT0 bC (Vu bC hT0 fD ?_ (fV _))))
  refine (show Ug _ _ (fieldsOf (.ref I) >>= _) _ _ s from Tv (wpAny_fieldsOf hI U ?_))
  refine (show Ug _ _ (setEntries S >>= _) _ _ s from Tv (ZF hS hd hf ?_))
  rw[if_neg (by simp)]
  refine (show Ug _ _ (aaq (.ref T) >>= _) _ _ s from Tv (VH hot hdt ?_))
  have hpl:(dz pl).toArray[(es.size:Int).toNat]? = none:=by
   rw[UL,Zf]
   show (pl.map fun j:Nat=>V2 (j:Int))[es.size]? = _
   rw[Uo,Vz (by lia)]
   rfl
  dsimp only
  rw[hpl]
  dsimp only
  refine Tv (WK hI U (by simp) ?_)
  have g1:=Vq (Zq (·.setIfInBounds 0 (V2 0))) hI U
  refine Tv (WK g1 U (by simp) ?_)
  refine (show Ug _ _ (abL (.type "StopIteration") [] >>= _) _ _ _ from Tv ?_)
  simp only[abL,newTuple]
  refine Tv (Vc ?_ (by size_fits))
  refine Tv (m:=XQ _ _) (W6 (a:=U0) (by first | rfl | (simp only[XQ];rfl)) (Vc ?_ (by size_fits)))
  simp only[raiseNew]
  refine Tv (aa3 ?_)
  first | rw[show A.in1.handled=none from hh] | rw[hh]
  refine Tv (TV (abW ?_))
  refine Tv (XJ (T:="StopIteration") (b:=true) ⟨_,Ub _ U,U⟩ ZX (TV ?_))
  refine hQ _ s.toks fun b o' hb' e=>?_
  have hbI:b≠I:=fun z=>hb' (by rw[z];exact List.mem_singleton.mpr U)
  exact ((((VL ..).trans (VL ..)).extBut.push _).push _) b o' hbI e
 self:=fun i s Q E st hQ=>tY st.1 hQ
end
section
variable {P:Uy}{w:Ve}{A:Vf}{E:Value->TF->Prop}{s:TF}{S:Addr}
theorem Kh {Q:Bool->TF->Prop} (hT:s.TypeIs (.ref S) "set") (h:Q false s):Ug (Up P w) A (ace (.ref S)) Q E s:=by
 unfold ace;refine Tv (Zx hT PySem.F.slot_set_len.lookup ?_)
 generalize hid:("set.__len__" : String)=id0
 wp_delta
 rw[show splitId id0=some ("set","__len__") from by subst hid;decide+kernel]
 subst hid
 refine Tv (XJ (T:="set") (b:=true) hT (by rw[XN];kernel_rfl) ?_)
 refine ab0 (fun z=>absurd z (by decide)) (fun _=>ab0 (fun _=>?_) (fun z=>absurd (by decide+kernel) z))
 exact Tv (wpAny_typeOf hT (TV h))
theorem Iz {b:Bool}{ks:IN}{Q:Ix}(hh:A.handled=none)(hb:b=JV w)(hS:m7 P w b s.heap S ks)(hz:ks.length<=sizeLine)
  (h:∀ (I:Addr) (fp:II) (n:Nat) (vs:IF) (ns:IN) (St:Nat->Vv->Prop) (s':TF),Walks P w A I fp [I] n (fun i v=>vs[i]? = some v) St->St 0 s'.heap->Vn vs ns->ns.Perm ks->vs.length=n->(∀ x∈fp,x=S∨s.heap.objs.size<=x)->s.heap.objs.size<=I →
   s'.os=s.os->s'.gens=s.gens->(∀ b o,s.heap.get? b=some o->s'.heap.get? b=some o)->Q (.ref I) s'):Ug (Up P w) A (aaT (.ref S)) Q E s:=by
 obtain⟨o,es,ep,t,ho,hx,hd,hel,hf,tk,ns,hi,hp⟩:=hS
 have hT:s.TypeIs (.ref S) "set":=⟨o,ho,hx.1⟩
 have hlt:S < s.heap.objs.size:=Uk ho
 refine abh hT PySem.F.slot_set_iter (Vu PySem.F.slot_set_iter hT qF ?_ (PySem.F.args_set_iter_1 _))
 refine (show Ug _ _ (Builtin.Frozenset.sizeOf S >>= _) _ _ s from ?_)
 unfold Builtin.Frozenset.sizeOf
 refine Tv (Tv (ZF ho hd hf (TV ?_)))
 unfold setDrawn setsByText
 refine Tv (Tv (Yn ho hd hf ?_))
 dsimp only
 refine Tv (Tv (XM (TV (TV ?_))))
 have hps:t.place.size=es.size:=by
  simp only[SetTable.fits,Wc,beq_iff_eq] at hf
  exact hf.1
 have hlen:(es.toList.map (·.2)).length=es.size:=by rw[Tw,Uv]
 have hez:es.size<=sizeLine:=by
  have h1:=hi.length
  have h2:=hp.length_eq
  lia
 have start:∀ (vs:IF) (ns':IN) (St:Nat->Vv->Prop),Walks P w A s.heap.objs.size [s.heap.objs.size,S] [s.heap.objs.size] es.size (fun i v=>vs[i]? = some v) St->(∀ h,SIt h s.heap.objs.size S (.int (0:Nat) 0) 0 es.size ep->h.get? S=some o->St 0 h) →
   Vn vs ns'->ns'.Perm ks->vs.length=es.size->Ug (Up P w) A.in1 (do
    let first ← pure (V2 0)
    let e ← setEpoch S
    let r ← newFields "set_iterator" [first,V2 0,U5 S,V2 (es.size:Int),V2 (e:Int)]
    ret r) (fun fin s'=>∃ v,fin=Fin.done (Flow.ret v)/\∃ T' r,s'.TypeIs v T'/\typeLookup (X7 T') (WM "__next__")=pure (some r)/\Q v s') E s:=fun vs ns' St W hst hi' hp' hl'=>by
  refine Tv (TV (Tv (wpAny_setEpoch_of ho hd hf (Tv (Vc (TV ?_))))))
  have g:(s.heap.push { cls:=.type "set_iterator",data:=.fields [V2 0,V2 0,U5 S,V2 (es.size:Int),V2 (ep:Int)].toArray }).get? s.heap.objs.size=some { cls:=.type "set_iterator",data:=.fields [V2 0,V2 0,U5 S,V2 (es.size:Int),V2 (ep:Int)].toArray }:=Ub _ U
  refine⟨_,U,"set_iterator",_,⟨_,g,U⟩,bC.lookup,?_⟩
  refine h s.heap.objs.size [s.heap.objs.size,S] es.size vs ns' St _ W (hst _ g (Tz _ ho)) hi' hp' hl' (fun x hx'=>?_) (Ua _) U U fun b' o' e=>Tz _ e
  rcases List.mem_cons.mp hx' with rfl | hx'
  ·exact .inr (Ua _)
  ·exact .inl (List.mem_singleton.mp hx')
 have hne:S≠s.heap.objs.size:=Uq hlt
 cases hB:w.params.followText "set-order" with
 | true =>
  refine Xk (decide_eq_false (show ¬ (!w.params.followText "set-order" && (!t.plain && decide (es.size > 1)))=true by rw[hB];exact Uc)) ?_
  have pp:=ql (w.params.setOrder S ep) es
  obtain⟨ms,h1,h2⟩:=gQ (pp.symm.map (·.2)) hi
  exact start _ ms _ (Em hh hne hB hd hf) (fun h' q1 q2=>⟨⟨0,0,q1⟩,q2⟩) h1 (h2.trans hp) (by rw[Tw,pp.length_eq,Uv])
 | false =>
  have hled:t.led=true:=by
   rw[tk.led,hb]
   unfold JV
   rw[hB]
   rfl
  cases hD:(!t.plain && decide (es.size > 1)) with
  | false =>
   refine Xk (decide_eq_false (show ¬ (!w.params.followText "set-order" && (!t.plain && decide (es.size > 1)))=true by rw[hD,Bool.and_false];exact Uc)) ?_
   have hpl:t.plain=true∨es.size<=1:=by
    rw[Bool.and_eq_false_iff] at hD
    rcases hD with q | q
    ·exact .inl (by simpa using q)
    ·exact .inr (by have:=of_decide_eq_false q;lia)
   have hris:Ris t.place:=by
    rcases hpl with q | q
    ·exact tk.ris q
    ·unfold Ris
     have hl1:t.place.toList.length<=1:=by rw[Uv];lia
     generalize t.place.toList=l at hl1
     match l,hl1 with
     | [],_=>exact Ze
     | [x],_=>exact List.pairwise_singleton _ _
   exact start _ ns _ (Dh hh hne hB hd hf hled hpl hris) (fun h' q1 q2=>⟨⟨0,q1⟩,q2⟩) hi hp hlen
  | true =>
   refine wpAny_ite_true (decide_eq_true (show (!w.params.followText "set-order" && (!t.plain && decide (es.size > 1)))=true by rw[hD,hB];rfl)) ?_
   refine Tv (wL es.size (Ui es.size) s UJ fun pl d pp=>?_)
   simp only[newTuple]
   have lp:pl.length=es.size:=by rw[pp.length_eq,UJ]
   refine Tv (Vc ?_ (show (dz pl).toArray.size<=sizeLine by unfold dz;rw[Ue,Tw];lia))
   have sz1:(s.heap.push { cls:=.type "tuple",data:=.seq (dz pl).toArray }).objs.size=s.heap.objs.size+1:=Vt _ _
   have gT:(s.heap.push { cls:=.type "tuple",data:=.seq (dz pl).toArray }).get? s.heap.objs.size=some { cls:=.type "tuple",data:=.seq (dz pl).toArray }:=Ub _ U
   have ho1:(s.heap.push { cls:=.type "tuple",data:=.seq (dz pl).toArray }).get? S=some o:=Tz _ ho
   refine Tv (wpAny_setEpoch_of (o:=o) (es:=es) (t:=t) ho1 hd hf (Tv (Vc (TV ?_))))
   have g:((s.heap.push { cls:=.type "tuple",data:=.seq (dz pl).toArray }).push { cls:=.type "set_iterator",data:=.fields [U5 s.heap.objs.size,V2 0,U5 S,V2 (es.size:Int),V2 (ep:Int)].toArray }).get? (s.heap.push { cls:=.type "tuple",data:=.seq (dz pl).toArray }).objs.size=some { cls:=.type "set_iterator",data:=.fields [U5 s.heap.objs.size,V2 0,U5 S,V2 (es.size:Int),V2 (ep:Int)].toArray }:=Ub _ U
   refine⟨_,U,"set_iterator",_,⟨_,g,U⟩,bC.lookup,?_⟩
   have hne1:S≠(s.heap.push { cls:=.type "tuple",data:=.seq (dz pl).toArray }).objs.size:=by
    rw[sz1]
    exact Uq (Vi hlt)
   have hne2:s.heap.objs.size≠(s.heap.push { cls:=.type "tuple",data:=.seq (dz pl).toArray }).objs.size:=by
    rw[sz1]
    exact Uq (Wb _)
   have hv:(pl.map fun j=>(es.getD j (0,.none)).2).Perm (es.toList.map (·.2)):=by
    refine (pp.map _).trans ?_
    have e:(Ui es.size).map (fun j=>(es.getD j (0,U0)).2)=es.toList.map (·.2):=by
     apply abB
     intro i
     have ea:es.toList[i]? = es[i]?:=Vk
     rw[Uo,Uo,ea]
     by_cases hi':i < es.size
     ·rw[Wd hi',Uu hi']
      simp [Wf,Uu hi']
     ·have er:(Ui es.size)[i]? = none:=Vz (by rw[UJ];lia)
      rw[er,Ye (by lia)]
      rfl
    rw[e]
   have le1:s.heap.objs.size<=(s.heap.push { cls:=.type "tuple",data:=.seq (dz pl).toArray }).objs.size:=by
    rw[sz1]
    exact WT _
   obtain⟨ms,h1,h2⟩:=gQ hv.symm hi
   refine h _ [(s.heap.push { cls:=.type "tuple",data:=.seq (dz pl).toArray }).objs.size,S,s.heap.objs.size] es.size _ ms _ _ (CP (T:=s.heap.objs.size) hh hne1 hne2 hd hf pp) ⟨g,Tz _ ho1,_,Tz _ gT,U,0,U⟩ h1 (h2.trans hp) (by rw[Tw];exact lp) (fun x hx'=>?_) le1 U U fun b' o' e=>Tz _ (Tz _ e)
   rcases List.mem_cons.mp hx' with rfl | hx'
   ·exact .inr le1
   ·rcases List.mem_cons.mp hx' with rfl | hx'
    ·exact .inl U
    ·exact .inr (by rw[List.mem_singleton.mp hx'];exact Ua _)
theorem za {ks:IN}{Q:IF->TF->Prop}(hh:A.handled=none)(hS:m7 P w (JV w) s.heap S ks)(hz:ks.length<=sizeLine)
  (h:∀ (vs:IF) (ns:IN) (s':TF),Vn vs ns->ns.Perm ks->s.heap.objs.size<=s'.heap.objs.size->s'.os=s.os->s'.gens=s.gens->(∀ b o,s.heap.get? b=some o->s'.heap.get? b=some o)->Q vs s'):Ug (Up P w) A (collect (.ref S)) Q E s:=by
 obtain⟨o,es,ep,t,ho,hx,_⟩:=id hS
 have hlt:S < s.heap.objs.size:=Uk ho
 have hSl:s.heap.objs.size≠S:=Wg hlt
 unfold collect
 refine Tv (wpAny_runValue (V8 PySem.F.entry_proto_collect ?_))
 rw[VN PySem.F.plain_proto_collect _]
 refine (show Ug _ A.in1 (newList [] >>= fun l=>again (.builtin "list.__iadd__" ⟨[l,.ref S],[]⟩)) _ _ s from Tv (Vc ?_))
 refine TV ⟨Wo PySem.F.plain_list_iadd _,V8 PySem.F.entry_list_iadd ?_⟩
 rw[VN PySem.F.plain_list_iadd _]
 generalize hN:s.heap.push { cls:=.type "list",data:=.seq ([]:IF).toArray }=h1
 have gL:h1.get? s.heap.objs.size=some { cls:=.type "list",data:=.seq ([]:IF).toArray }:=by rw[← hN];exact Ub _ U
 have k1:∀ b o,s.heap.get? b=some o->h1.get? b=some o:=fun b o e=>by rw[← hN];exact Tz _ e
 have sz1:h1.objs.size=s.heap.objs.size+1:=by rw[← hN];exact Vt _ _
 have hT:Shared.TypeIs { s with heap:=h1 } (.ref S) "set":=⟨o,k1 _ _ ho,hx.1⟩
 refine (show Ug _ A.in1 (acf (.ref s.heap.objs.size) (.ref S) (.ref s.heap.objs.size)) _ _ { s with heap:=h1 } from ?_)
 unfold acf;refine Tv (wpAny_typeOf hT ?_)
 have q1:Builtin.List.listSameRef (.ref s.heap.objs.size) (.ref S)=false:=by simp [Builtin.List.listSameRef,hSl]
 have q2:(X7 "set" == X7 "list")=false:=by decide
 have q3:(X7 "set" == X7 "tuple")=false:=by decide
 simp only[q1,q2,q3,Bool.or_false,Y0,if_false]
 refine Tv (Iz (s:={ s with heap:=h1 }) hh U (nH (fun o e=>k1 S o e) hS) hz fun I fp n vs ns St s2 W st hi hp hl hfp hI os2 gs2 k2=>?_)
 have gL2:=k2 _ _ gL
 have hTs:s2.TypeIs (.ref S) "set":=⟨o,k2 _ _ (k1 _ _ ho),hx.1⟩
 have hLf:s.heap.objs.size ∉ fp:=fun z=>by
  rcases hfp _ z with q | q
  ·exact hSl q
  ·have q':h1.objs.size<=s.heap.objs.size:=q
   rw[sz1] at q'
   exact absurd q' (Nat.not_succ_le_self _)
 have hz':n<=sizeLine:=by
  have e1:=hi.length
  have e2:=hp.length_eq
  lia
 have key:∀ (R:abb->TF->Prop),(∀ (s':TF) (c':Nat),s'.heap.get? s.heap.objs.size=some { cls:=.type "list",dict:=none,data:=.seq vs.toArray c',slots:=#[] }->s'.os=s.os->s'.gens=s.gens->(∀ b o,s.heap.get? b=some o->s'.heap.get? b=some o)->R (.ok (.ret (.ref s.heap.objs.size))) s') →
   ∀ (h':Vv) (c tk:Nat),St 0 h'->(∀ b o,b≠s.heap.objs.size->s2.heap.get? b=some o->h'.get? b=some o)->h'.get? s.heap.objs.size=some { cls:=.type "list",data:=.seq #[] c } →
   WL (Up P w) A (.builtin "list.extend.loop" ⟨[.ref s.heap.objs.size,.ref I,.ref s.heap.objs.size],[]⟩) R { s2 with heap:=h',toks:=tk }:=fun R hR h' c tk st' kp gl=>by
  refine codeAny_extend_loopS W.toS hz' s.heap.objs.size hLf _ n 0 _ #[] c U (Uw _) st' gl (ItemsOf.nil _) fun s' acc' c' hm gL' hacc=>?_
  have eacc:acc'=vs.toArray:=by
   apply Array.ext_getElem?
   intro j
   have ev:vs.toArray[j]? = vs[j]?:=Zf
   rw[ev]
   by_cases hj:j < acc'.size
   ·have e:=hacc.2 j acc'[j] (Uu hj)
    rw[Uu hj]
    exact e.symm
   ·rw[Ye (by lia),Vz (by have:=hacc.1;lia)]
  rw[eacc] at gL'
  refine hR s' c' gL' (hm.os.trans os2) (hm.gens.trans gs2) fun b o' e=>?_
  have hbl:b < s.heap.objs.size:=Uk e
  refine hm.heap b o' ?_ (kp b o' (Uq hbl) (k2 _ _ (k1 _ _ e)))
  rw[VG,WY]
  rintro (z | z)
  ·exact absurd z (Uq hbl)
  ·have q:h1.objs.size<=I:=hI
   rw[sz1,← z] at q
   exact absurd (Us hbl (Nat.le_of_succ_le q)) (Wq _)
 refine Tv (V5 (Kh hTs ?_))
 have fin:∀ (s':TF) (c':Nat),s'.heap.get? s.heap.objs.size=some { cls:=.type "list",dict:=none,data:=.seq vs.toArray c',slots:=#[] }->s'.os=s.os->s'.gens=s.gens->(∀ b o,s.heap.get? b=some o->s'.heap.get? b=some o) →
   Ug (Up P w) A (load s.heap.objs.size >>= fun o=>match o.data with | .seq xs _=>pure xs.toList | _=>abX "internal:collect") Q E s':=fun s' c' g e1 e2 e3=>Tv (wpAny_load g (TV (h vs ns s' hi hp (Yy (Uk g)) e1 e2 e3)))
 refine ab0 (fun _=>?_) (fun _=>TV ⟨Wo PySem.F.plain_extend_loop _,key _ (fun s' c' g e1 e2 e3=>fin s' c' g e1 e2 e3) s2.heap _ s2.toks st (fun b o _ e=>e) gL2⟩)
 refine Tv (Xg (Tv (show Ug _ _ (abH s.heap.objs.size (·.push .none) >>= fun _=>abH s.heap.objs.size (·.pop)) _ _ _ from ?_)))
 refine Tv (YK gL2 U ?_)
 have g3:=Vq (Vh (·.push U0)) gL2 U
 refine YK (hz:=by seq_fits) g3 U ?_
 have g4:=Vq (Vh (·.pop)) g3 U
 have oth:∀ b o',b≠s.heap.objs.size->s2.heap.get? b=some o'->((s2.heap.update s.heap.objs.size (Vh (·.push U0))).update s.heap.objs.size (Vh (·.pop))).get? b=some o':=fun b o' hb e=>by
  rw[Vm _ _ (Xd hb),Vm _ _ (Xd hb)]
  exact e
 exact TV ⟨Wo PySem.F.plain_extend_loop _,key _ (fun s' c' g e1 e2 e3=>fin s' c' g e1 e2 e3) _ _ s2.toks (W.frame 0 _ _ st fun b hb o' e=>oth b o' (fun z=>hLf (by rw[← z];exact hb)) e) oth g4⟩
end
section
variable {P:Uy}{w:Ve}{A:Vf}{E:Value->TF->Prop}{s:TF}{S:Addr}
theorem De {ks:IN}{Q:Ix}(hh:A.handled=none)(hS:m7 P w (JV w) s.heap S ks)(h64:ks.length < 64)
  (h:∀ (l:Addr) (vs:IF) (ns:IN) (c:Nat) (s':TF),Vn vs ns->ns.Perm ks->ns.Pairwise (·<=·)->s'.heap.get? l=some { cls:=.type "list",data:=.seq vs.toArray c }->s.heap.objs.size<=l->s'.os=s.os->s'.gens=s.gens →
   (∀ b o,s.heap.get? b=some o->s'.heap.get? b=some o)->Q (.ref l) s'):Ug (Up P w) A (call (.builtin "sorted") [.ref S]) Q E s:=by
 refine Z6 kind_sorted plain_sorted entry_sorted (args_sorted1 _) ?_
 unfold Builtin.«sorted»;refine Tv (m:=checkCount "sorted" 1 1 _) (TV ?_)
 refine Tv (za hh hS (Yy (Us h64 (by decide))) fun vs ns s1 hi hp hsz os1 gs1 k1=>?_)
 have hl:vs.length < 64:=by
  have e1:=hi.length
  have e2:=hp.length_eq
  lia
 refine Tv (aag ?_)
 have g1:(s1.heap.push (VJ "list" vs.toArray 0)).get? s1.heap.objs.size=some (VJ "list" vs.toArray 0):=Ub _ U
 refine Tv (V5 (Vu slot_list_sort ⟨_,g1,U⟩ ab2 (list_sort_tree g1 hi hl fun out ns' a1 a2 a3=>⟨_,U,?_⟩) (args_list_sort _)))
 obtain⟨c,hc⟩:=sortedHeap_at (out:=out) g1
 refine TV ⟨_,U,h s1.heap.objs.size out.toList ns' c _ a1 (a2.trans hp) a3 ?_ hsz os1 gs1 fun b o e=>?_⟩
 ·exact hc
 ·have e1:=k1 b o e
  have lt:=Uk e1
  rw[sortedHeap_old (Uq lt) (by rw[Vt];exact Vi lt)]
  exact Tz _ e1
end
def ddI (ns:IN):IN:=firstMet (fun i=>ns.getD i 0) ns.length
theorem Inv.JK {X:Cx}{ZY:Ic}{σ:St}{H:Hp}{s s':TF}{l:Addr}{ys:List V}{its:IF}{c:Nat}(I:Inv X ZY σ H s)(ho:s'.os=s.os)(hg:s'.gens=s.gens)(k:∀ b u,s.heap.get? b=some u->s'.heap.get? b=some u)
  (hl:s.heap.objs.size<=l) (hv:Vals ys its) (hz:ys.length<=sizeLine) (g:s'.heap.get? l=some { cls:=.type "list",data:=.seq its.toArray c }):Inv X ZY σ (upd H l (.lst ys)) s':=by
 have J:=I.laid (t':=s.toks) (o:=.lst ys) k hl ⟨hz,its,c,hv,g⟩
 exact⟨J.ok,ho.trans I.os,by rw[hg];exact I.bare,J.base,J.loc,J.cell,J.free,J.freeC,J.pin,J.hok,J.len⟩
def tSS (K:UT)(te:TA):TE:=fun σ H Q=>te σ H fun xs H1=>∃ (a:Addr) (ns:IN),xs=[.ref a]/\SqL K H1 a (ns.map V.int)/\ns.length<=4000/\(ddI ns).length < 64/\∀ ms:IN,ms.Perm (ddI ns)->ms.Pairwise (·<=·)->∀ l,H1 l=none->Q (.ref l) (upd H1 l (.lst (ms.map V.int)))
theorem wR {X:Cx} {e:Expr} {te:TA} {p1 p2 q1 q2:YM} (hc:X.calm=true) (hg1:Gl X "sorted") (hm1:X.mg "sorted" = none) (hg2:Gl X "set") (hm2:X.mg "set" = none) (ha:PA X [e] te)
  (hb1:VF "sorted" = some (.builtin "sorted"):=by decide+kernel) (hb2:VF "set" = some (.type "set"):=by decide+kernel)
  (he1:U9 [.Call (.Name "set" p2) [e] [] q2] X.env=(false,W8 (.Call (.Name "set" p2) [e] [] q2) X.env)::U9 [] X.env:=by rfl) (hp1:(Zj q1 (U9 [] X.env)).any (·.1)=false:=by rfl)
  (he2:U9 [e] X.env=(false,W8 e X.env)::U9 [] X.env:=by rfl) (hp2:(Zj q2 (U9 [] X.env)).any (·.1)=false:=by rfl) :
  PE X (.Call (.Name "sorted" p1) [.Call (.Name "set" p2) [e] [] q2] [] q1) (tSS X.K te):=by
 intro ZY s σ H Q I h
 refine X6 (jx I hg1 hm1 hb1 ?_ (by decide) (by decide))
 refine abN ?_ he1 hp1
 rw[he1]
 refine (show Ug _ _ (spliced ((false,W8 (.Call (.Name "set" p2) [e] [] q2) X.env)::Zj q1 (U9 [] X.env))) _ _ s from Calls.spliced_cons ?_)
 refine X6 (jx I hg2 hm2 hb2 ?_ (by decide) (by decide))
 refine V1 (thn (ha q2 ZY s σ H _ I h) fun us s1 ⟨vs,H1,I1,r1,q⟩=>?_) he2 hp2
 obtain⟨a,ns,rfl,hq,hl,h64,hQ⟩:=q
 obtain⟨u,rfl,ru⟩:=vals1 r1
 cases ru
 obtain⟨its,rv,pl,_⟩:=I1.list hq
 have hi:Vn its ns:=intsAre_of rv
 have hsz:its.toArray.size=ns.length:=by rw[Ue];exact hi.length
 refine yL (I1.ok.hd hc) pl.isList hi (by rw[hsz];exact X8 (abO hl) (by decide)) fun h' tk hS hk=>?_
 rw[hsz] at hS
 have I2:Inv X ZY σ H1 { s1 with heap:=h',toks:=tk }:=I1.kept (t':=tk) fun b o e=>hk b o (Uk e) e
 refine (show Ug _ _ (spliced []) _ _ _ from Calls.spliced_nil ?_)
 refine De (I1.ok.hd hc) hS h64 fun l vs ms c s3 hi3 hp3 hw3 g3 hl3 os3 gs3 k3=>?_
 have hml:(ms.map V.int).length<=sizeLine:=by
  rw[Tw,hp3.length_eq]
  exact Yy (Us h64 (by decide))
 exact⟨.ref l,_,I2.JK os3 gs3 k3 hl3 (mH hi3) hml g3,U,hQ ms hp3 hw3 l (I2.hok.fresh hl3)⟩
section
variable {X:Cx}{ZY:Ic}{s:TF}{σ:St}{H:Hp}
end
section
variable {X:Cx}{k:Nat}
end
section
variable {X:Cx}{k:Nat}
end
def mxD (d:Int):IN->Int
 | []=>d
 | a::r=>r.foldl max a
theorem fj:∀ (r:IN) (a:Int),a<=r.foldl max a/\∀ b∈r,b<=r.foldl max a
 | [],a=>⟨Vj _,by simp⟩
 | c::r,a=>by
  obtain⟨h1,h2⟩:=fj r (max a c)
  rw[Vw]
  refine⟨by lia,fun b hb=>?_⟩
  rcases List.mem_cons.mp hb with rfl | hb
  ·lia
  ·exact h2 b hb
theorem vf {n:Int}:∀ {l:IF} {ns:IN} {j:Nat},Vn l ns->ns[j]? = some n->∃ t,l[j]? = some (.int n t)
 | _,_,j,.nil,h=>by simp at h
 | _,_,0,.cons _ _ _,h=>by
  cases (show some _=some n from h)
  exact⟨_,U⟩
 | _,_,j+1,.cons _ _ r,h=>by
  obtain⟨t,e⟩:=vf (j:=j) r (by simpa using h)
  exact⟨t,by simpa using e⟩
def dkw (dk:HP):HZ:=dk.toList.map fun d=>(("default" : VM),XR d.1 d.2)
section
variable {prog:Uy}{w:Ve}{A:Vf}{R:abb->TF->Prop}{E:Ix}{s:TF}
theorem Ii {it l S:Addr}{items:Array Value}{ns:IN}(hh:A.handled=none)(hi:Vn items.toList ns)(hne:l≠it)(hS1:S≠it)(hS2:S≠l)(kw:HZ) :
  ∀ (k j:Nat) (s:TF) (b:Int) (t:Tok) (c:Nat),ns.length - j=k->j<=ns.length->s.heap.IsListIter it l j->s.heap.IsList l items →
   s.heap.get? S=some { cls:=.type "list",dict:=none,data:=.seq #[.int b t,.int b t] c,slots:=#[] } →
   (∀ t' h' tk,(∀ a o,a≠it->a≠S->s.heap.get? a=some o->h'.get? a=some o)->R (.ok (.ret (.int ((ns.drop j).foldl max b) t'))) { s with heap:=h',toks:=tk }) →
   WL (Up prog w) A (.builtin "max.loop" ⟨[.ref it,.none,.ref S],kw⟩) R s:=by
 have W:=aa9 (prog:=prog) (w:=w) (A:=A.in1) hh it l hne items
 have hname:(toString "max"++toString ".loop" : String) = "max.loop":=by decide
 have hsz:items.size=ns.length:=by rw[← Uv];exact hi.length
 intro k
 induction k with
 | zero =>
  intro j s b t c hk hj h1 h2 hS hR
  refine V8 abT ?_;rw[VN XX _]
  show Ug _ A.in1 (aaq (.ref S) >>= _) _ _ s;refine Tv (VH hS U ?_)
  have ej:j=items.size:=by lia
  show Ug _ A.in1 (tryCatch (W7 (.ref it)) _ >>= _) _ _ s;refine Tv (ZV (W.done s _ _ (by rw[← ej];exact⟨h1,h2⟩) fun h' tk hm=>?_))
  have hS':=hm S _ (by simpa using hS1) hS
  show Ug _ A.in1 (abH S (fun _=>#[]) >>= _) _ _ _;refine Tv (YK hS' U (Tv (X3 (TV ?_))))
  rw[Xe (by lia)] at hR
  exact hR t _ tk fun a o ha hb e=>(Vm _ _ (Xd hb)).trans (hm a o (by simpa using ha) e)
 | succ k ih =>
  intro j s b t c hk hj h1 h2 hS hR
  refine V8 abT ?_;rw[VN XX _]
  show Ug _ A.in1 (aaq (.ref S) >>= _) _ _ s;refine Tv (VH hS U ?_)
  have hlt:j < ns.length:=by lia
  obtain⟨u,hu⟩:=vf hi (TJ hlt)
  have ed:ns.drop j=ns[j]::ns.drop (j+1):=Wi hlt
  show Ug _ A.in1 (tryCatch (W7 (.ref it)) _ >>= _) _ _ s;refine Tv (ZV (W.item j s _ _ (by lia) ⟨h1,h2⟩ fun v h' tk hP st hm=>?_))
  obtain⟨g1,g2⟩:=st
  have ev:v = .int ns[j] u:=by
   have e:items[j]? = some v:=hP
   rw[← Vk,hu] at e
   exact (U4 e).symm
  subst ev
  have hS':=hm S _ (by simpa using hS1) hS
  show Ug _ A.in1 (tryCatch (abm [XR ns[j] u,XR ns[j] u] (richCompare .Gt (.int ns[j] u) (.int b t) >>= _)) _ >>= _) _ _ _
  refine Tv (ZV (V5 (Tv ((CmpOf.ints_gt (P:=fun i v=>∃ t,v = .int (if i=0 then ns[j] else b) t) (fun i=>if i=0 then ns[j] else b) (fun _ _ h=>h)) 0 1 _ _ _ _ _ ⟨u,U⟩ ⟨t,U⟩ ?_))))
  refine Tv (V5 (WD (Tv (X3 (TV ?_)))))
  show Ug _ A.in1 (if decide (ns[j] > b)=true then _ else _) _ _ _
  by_cases hb:ns[j] > b
  ·rw[if_pos (decide_eq_true hb)]
   refine Tv (YK hS' U (Tv (X3 ?_)))
   rw[hname]
   refine TV ⟨Wo XX _,ih (j+1) _ ns[j] u _ (by lia) hlt ?_ ?_ (Vq _ hS' U) fun t' h2 tk2 k2=>?_⟩
   ·exact g1.at fun o e=>(Vm _ _ hS1).trans e
   ·exact g2.at fun o e=>(Vm _ _ hS2).trans e
   ·have q:=hR t' h2 tk2 fun a o ha hb e=>k2 a o ha hb ((Vm _ _ (Xd hb)).trans (hm a o (by simpa using ha) e))
    rw[ed,Vw,show max b ns[j]=ns[j] by lia] at q
    exact q
  ·rw[if_neg (by simpa using hb)]
   refine Tv (X3 ?_)
   rw[hname]
   refine TV ⟨Wo XX _,ih (j+1) _ b t c (by lia) hlt g1 g2 hS' fun t' h2 tk2 k2=>?_⟩
   have q:=hR t' h2 tk2 fun a o ha hb e=>k2 a o ha hb (hm a o (by simpa using ha) e)
   rw[ed,Vw,show max b ns[j]=b by lia] at q
   exact q
theorem Cq {it l S:Addr}{items:Array Value}{ns:IN}{c:Nat}(hh:A.handled=none)(hi:Vn items.toList ns)(hne:l≠it)(hS1:S≠it)(hS2:S≠l)(dk:HP)(hd:ns=[]->dk≠none)
  (h1:s.heap.IsListIter it l 0) (h2:s.heap.IsList l items) (hS:s.heap.get? S=some { cls:=.type "list",dict:=none,data:=.seq #[] c,slots:=#[] })
  (hR:∀ t' h' tk,(∀ a o,a≠it->a≠S->s.heap.get? a=some o->h'.get? a=some o)->R (.ok (.ret (.int (mxD ((dk.map (·.1)).getD 0) ns) t'))) { s with heap:=h',toks:=tk }) :
  WL (Up prog w) A (.builtin "max.loop" ⟨[.ref it,.none,.ref S],dkw dk⟩) R s:=by
 have W:=aa9 (prog:=prog) (w:=w) (A:=A.in1) hh it l hne items
 have hname:(toString "max"++toString ".loop" : String) = "max.loop":=by decide
 have hsz:items.size=ns.length:=by rw[← Uv];exact hi.length
 refine V8 abT ?_;rw[VN XX _]
 show Ug _ A.in1 (aaq (.ref S) >>= _) _ _ s;refine Tv (VH hS U ?_)
 show Ug _ A.in1 (tryCatch (W7 (.ref it)) _ >>= _) _ _ s
 cases ns with
 | nil =>
  have e0:items.size=0:=hsz
  refine Tv (ZV (W.done s _ _ (by rw[e0];exact⟨h1,h2⟩) fun h' tk hm=>?_))
  cases dk with
  | none=>exact absurd U (hd U)
  | some d =>
   refine Tv (Xg ?_)
   exact TV (hR d.2 h' tk fun a o ha hb e=>hm a o (by simpa using ha) e)
 | cons n r =>
  obtain⟨u,hu⟩:=vf (n:=n) (j:=0) hi U
  refine Tv (ZV (W.item 0 s _ _ (by rw[hsz];exact Nat.succ_pos _) ⟨h1,h2⟩ fun v h' tk hP st hm=>?_))
  obtain⟨g1,g2⟩:=st
  have ev:v = .int n u:=by
   have e:items[0]? = some v:=hP
   rw[← Vk,hu] at e
   exact (U4 e).symm
  subst ev
  have hS':=hm S _ (by simpa using hS1) hS
  show Ug _ A.in1 (abH S (fun _=>#[XR n u,XR n u]) >>= _) _ _ _
  refine Tv (YK hS' U ?_)
  rw[hname]
  refine TV ⟨Wo XX _,Ii hh hi hne hS1 hS2 _ _ 1 _ n u _ U (abO (Uw _)) ?_ ?_ (Vq _ hS' U) fun t' h2 tk2 k2=>?_⟩
  ·exact g1.at fun o e=>(Vm _ _ hS1).trans e
  ·exact g2.at fun o e=>(Vm _ _ hS2).trans e
  ·exact hR t' h2 tk2 fun a o ha hb e=>k2 a o ha hb ((Vm _ _ (Xd hb)).trans (hm a o (by simpa using ha) e))
theorem GF (a v:Value):Zy "max" ⟨[a],[("default",v)]⟩:=by unfold Zy;kernel_rfl
theorem Ft (v:Value):ZS "max" ["key","default"] 0 ⟨[],[("default",v)]⟩=pure [none,some v]:=by kernel_rfl
theorem Lw {l:Addr}{items:Array Value}{ns:IN}{Q:Ix}(hh:A.handled=none)(hl:s.heap.IsList l items)(hi:Vn items.toList ns)(dk:HP)(hd:ns=[]->dk≠none)
  (h:∀ t h' tk,(∀ a o,s.heap.get? a=some o->h'.get? a=some o)->Q (.int (mxD ((dk.map (·.1)).getD 0) ns) t) { s with heap:=h',toks:=tk }) :
  Ug (Up prog w) A (call (.builtin "max") [.ref l] (dkw dk)) Q E s:=by
 have ha:Zy "max" ⟨[.ref l],dkw dk⟩:=by
  cases dk with
  | none=>exact F.args_max1 _
  | some d=>exact GF _ _
 have hb:ZS "max" ["key","default"] 0 ⟨[],dkw dk⟩=pure [none,dk.map fun d=>.int d.1 d.2]:=by
  cases dk with
  | none=>rfl
  | some d=>exact Ft _
 have hname:(toString "max"++toString ".loop" : String) = "max.loop":=by decide
 refine wpAny_call (codeAny_call_builtin F.plain_max F.entry_max ?_)
 have main:Ug (Up prog w) A.in1 (Builtin.«max» ⟨[.ref l],dkw dk⟩) (fun fin s'=>match fin with
   | .done f=>(match (Except.ok f:abb) with | .ok (.ret v)=>Q v s' | .ok _=>False | .error e=>E e s')
   | .again c'=>c'.quiet=true/\WL (Up prog w) A c' (fun r s'=>match r with | .ok (.ret v)=>Q v s' | .ok _=>False | .error e=>E e s') s') E s:=by
  show Ug _ A.in1 (ZS "max" ["key","default"] 0 ⟨[],dkw dk⟩ >>= _) _ _ s
  refine Tv (W6 hb (Tv (TV ?_)))
  refine Tv (Xr hl (Tv (Vc ?_)))
  have lt:l < s.heap.objs.size:=by obtain⟨o,e,_⟩:=hl;exact Uk e
  have hs1:(s.heap.push { cls:=.type "list_iterator",data:=.fields #[.ref l,.int 0 0] }).objs.size=s.heap.objs.size+1:=Vt ..
  rw[hname]
  have ek:(dk.map fun d=>XR d.1 d.2).toList.map (fun d=>(("default" : VM),d))=dkw dk:=by cases dk <;> rfl
  refine TV ⟨Wo XX _,?_⟩
  show WL _ A (.builtin "max.loop" ⟨[.ref s.heap.objs.size,.none,_],(dk.map fun d=>XR d.1 d.2).toList.map (fun d=>(("default" : VM),d))⟩) _ _
  rw[ek]
  refine Cq hh hi (Uq lt) (by rw[hs1];exact Wg (Wb _)) (by rw[hs1];exact Wg (Vi lt)) dk hd
   ⟨_,Tz _ (Ub _ U),U,U⟩ ((hl.push _).push _) (Ub _ U) fun t h' tk k=>?_
  exact h t h' tk fun a o e=>k a o (Uq (Uk e)) (by rw[hs1];exact Uq (Vi (Uk e))) (Tz _ (Tz _ e))
 simp only[abM,F.kind_max]
 cases hsig:Manifest.signature? "max" with
 | none=>exact TV main
 | some sig =>
  have ha':Bind.checkArgs "max" sig ⟨[.ref l],dkw dk⟩=pure ():=by simpa only [Zy,hsig] using ha
  simp only[ha']
  exact TV main
end
section
variable {X:Cx}
inductive KN (K:UT)(xs:List V)(H:Hp)(Q:VK):Prop where
 | mk (p:Addr) (ns:IN) (_:xs=[.ref p]) (_:SqL K H p (ns.map V.int)) (_:ns.length < 64) (_:∀ ms:IN,ms.Perm ns->ms.Pairwise (·<=·)->∀ l,H l=none->Q (.ref l) (upd H l (.lst (ms.map V.int))))
theorem CW:iT X (.builtin "sorted") (KN X.K):=by
 intro ZY s σ H xs us Q I r h
 obtain⟨p,ns,rfl,hq,h64,q⟩:=h
 obtain⟨u,rfl,ru⟩:=vals1 r
 cases ru
 obtain⟨its,rv,pl,hz⟩:=I.list hq
 have hi:Vn its ns:=intsAre_of rv
 refine sorted_ints pl.isList hi (by have:=hi.length;lia) fun out ns' a1 a2 a3=>?_
 obtain⟨e,he⟩:=sortedAll_at s.heap its out
 have hml:(ns'.map V.int).length<=sizeLine:=by
  rw[Tw,a2.length_eq]
  exact Yy (Us h64 (by decide))
 exact⟨.ref _,_,I.JK U U (fun _ _=>sortedAll_old) (WT _) (mH a1) hml he,U,q ns' a2 a3 _ (I.hok.fresh (WT _))⟩
inductive Dc (K:UT)(xs:List V)(H:Hp)(Q:VK):Prop where
 | mk (p:Addr) (ns:IN) (_:xs=[.ref p]) (_:SqL K H p (ns.map V.int)) (_:ns≠[]) (_:Q (.int (mxD 0 ns)) H)
theorem jQ (hc:X.calm=true):iT X (.builtin "max") (Dc X.K):=by
 intro ZY s σ H xs us Q I r h
 obtain⟨p,ns,rfl,hq,hne,q⟩:=h
 obtain⟨u,rfl,ru⟩:=vals1 r
 cases ru
 obtain⟨its,rv,pl,hz⟩:=I.list hq
 exact Lw (I.ok.hd hc) pl.isList (show Vn its.toArray.toList ns from intsAre_of rv) none (fun e=>absurd e hne) fun t h' tk k=>⟨.int _,H,I.kept (t':=tk) k,⟨_,U⟩,q⟩
def Q8 (K:UT)(d:Int)(te:TA):TE:=fun σ H Q=>te σ H fun xs H1=>∃ (p:Addr) (ns:IN),xs=[.ref p]/\SqL K H1 p (ns.map V.int)/\Q (.int (mxD d ns)) H1
theorem NP {e:Expr} {te:TA} {d:Int} {j} {p pos kp cp:YM} (hc:X.calm=true) (hg:Gl X "max") (hm:X.mg "max" = none) (ha:PA X [e] te)
  (hb:VF "max" = some (.builtin "max"):=by decide+kernel)
  (he:Zj pos (U9 [e] X.env)=(false,W8 e X.env)::Zj pos (U9 [] X.env):=by rfl) (hp:(Zj pos (U9 [e] X.env)).any (·.1)=false:=by rfl) :
  PE X (.Call (.Name "max" p) [e] [⟨some "default",.Constant (.int d) j cp,kp⟩] pos) (Q8 X.K d te):=by
 intro ZY s σ H Q I h
 refine X6 (jx I hg hm hb ?_ (by decide) (by decide))
 refine callWith_kw (thn (ha pos ZY s σ H _ I h) fun us s1 ⟨vs,H1,I1,r1,q⟩=>?_) he hp
 obtain⟨a,ns,rfl,hq,q⟩:=q
 obtain⟨u,rfl,ru⟩:=vals1 r1
 cases ru
 refine kws_cons (wpAny_Constant_int (kws_nil ?_))
 have I2:Inv X ZY σ H1 { s1 with toks:=s1.toks+1 }:=I1.tok _
 obtain⟨its,rv,pl,hz⟩:=I2.list hq
 exact Lw (I.ok.hd hc) pl.isList (show Vn its.toArray.toList ns from intsAre_of rv) (some (d,_)) (fun _ z=>nomatch z) fun t h' tk k=>⟨.int _,H1,I2.kept (t':=tk) k,⟨_,U⟩,q⟩
end
theorem Fj:Manifest.owners.lookup (String.ofList ['d','e','s','r','e','v','e','r'].reverse)=some Manifest.sig_reversed:=by kernel_rfl
theorem dR:Slot "reversed" "__next__" "reversed.__next__" :=
 .of (owner:="reversed") (n:="__next__") (by rw[YL,Xi];kernel_rfl) (by decide+kernel) (by decide+kernel) (by decide+kernel) (by first | exact .inl (by decide+kernel) | exact .inr (by decide+kernel)) (by rw[XN];kernel_rfl)
theorem ug:Slot "reversed" "__init__" "object.__init__" :=
 .of (owner:="object") (n:="__init__") (by rw[YL,Xi];kernel_rfl) (by decide+kernel) (by decide+kernel) (by decide+kernel) (by first | exact .inl (by decide+kernel) | exact .inr (by decide+kernel)) (by rw[XN];kernel_rfl)
theorem km:entryFor table "reversed.__next__" = some Builtin.«reversed.__next__»:=entryFor_of_tree (by kernel_rfl)
theorem mC (a:Value):Zy "reversed.__next__" ⟨[a],[]⟩:=by
 unfold Zy
 rw[aai (id:="reversed.__next__") (n:=['_','_','t','x','e','n','_','_']) (o:=['d','e','s','r','e','v','e','r']) (by kernel_rfl) Fj]
 kernel_rfl
theorem my:Slot "reversed" "__iter__" "reversed.__iter__" :=
 .of (owner:="reversed") (n:="__iter__") (by rw[YL,Xi];kernel_rfl) (by decide+kernel) (by decide+kernel) (by decide+kernel) (by first | exact .inl (by decide+kernel) | exact .inr (by decide+kernel)) (by rw[XN];kernel_rfl)
theorem rF:entryFor table "reversed.__iter__" = some Builtin.«dict_keyiterator.__iter__»:=entryFor_alias (id':="dict_keyiterator.__iter__") (by kernel_rfl) U (by decide+kernel) (by kernel_rfl)
theorem uQ (a:Value):Zy "reversed.__iter__" ⟨[a],[]⟩:=by
 unfold Zy
 rw[aai (id:="reversed.__iter__") (n:=['_','_','r','e','t','i','_','_']) (o:=['d','e','s','r','e','v','e','r']) (by kernel_rfl) Fj]
 kernel_rfl
theorem Dy:TypeCalled "reversed" "reversed.__new__" "object.__init__" :=
 ⟨by decide+kernel,by decide+kernel,⟨_,_,F.mro_reversed⟩,F.made_reversed,by decide+kernel,by rw[XN];kernel_rfl,ug⟩
theorem vZ:typeLookup (.type "tuple") "__reversed__" = pure none:=by rw[YL,Xi];kernel_rfl
theorem vW:isSubtype (.type "tuple") (.type "dict")=pure false:=by rw[XN];kernel_rfl
def RIt (h:Vv)(I t:Addr)(i:Int):Prop:=h.get? I=some { cls:=.type "reversed",dict:=none,data:=.fields #[.ref t,.int i 0],slots:=#[] }
theorem JG (a:Value):acd "reversed" ⟨[.type "reversed",a],[]⟩=pure (.type "reversed",[a]):=by
 unfold acd
 simp only[isType,F.sub_reversed_self,pure_bind,Bool.not_true,Y0,if_false]
theorem Km (t:Addr)(items:Array Value)(hf:(items.size:Int) < 2 ^ 63) :
  abw (Builtin.«reversed.__new__» ⟨[.type "reversed",.ref t],[]⟩) (fun _ R s=>IsTup s.heap t items/\R (.ok (.ret (.ref s.heap.objs.size))) { s with heap:=s.heap.push { cls:=.type "reversed",data:=.fields #[.ref t,.int ((items.size:Int) - 1) 0] },toks:=s.toks+1+1 }) :=
 .of_wp fun prog w A R s h=>by
  obtain⟨ht,h⟩:=h
  unfold Builtin.«reversed.__new__»
  refine Tv (W6 (JG _) ?_)
  try dsimp only
  refine Tv (W6 (a:=()) (by first | rfl | kernel_rfl) (Tv (W6 (a:=()) (by first | rfl | kernel_rfl) ?_)))
  try dsimp only
  refine Tv (Zx ht.typeIs vZ ?_)
  try dsimp only
  refine (show Ug _ _ ((isInstance (.ref t) (.type "dict") >>= _) >>= _) _ _ s from Tv (Tv (XJ ht.typeIs vW ?_)))
  rw[if_neg Uc]
  refine Tv (Zx ht.typeIs slot_tuple_getitem.lookup ?_)
  dsimp only
  rw[if_pos (by decide+kernel)]
  refine TV ?_
  rw[if_neg (by simp)]
  refine Tv (len_tuple ht hf ?_)
  refine Tv (W6 (a:=some ((items.size:Nat):Int)) U ?_)
  dsimp only
  refine Tv ?_
  refine (show Ug _ _ (newObj (.type "reversed") (.fields #[.ref t,V2 ((items.size:Int) - 1)])) _ _ _ from Vc ?_)
  exact TV ⟨_,U,h⟩
section
variable {prog:Uy}{w:Ve}{A:Vf}{E:Ix}{s:TF}
theorem Fo {t:Addr}{items:Array Value}{Q:Ix}(ht:IsTup s.heap t items)(hf:(items.size:Int) < 2 ^ 63)
  (h:Q (.ref s.heap.objs.size) { s with heap:=s.heap.push { cls:=.type "reversed",data:=.fields #[.ref t,.int ((items.size:Int) - 1) 0] },toks:=s.toks+1+1 }):Ug (Up prog w) A (call (.type "reversed") [.ref t]) Q E s:=by
 refine abp Dy (by decide) (F.typeCall_reversed_1 _) (F.newCall_reversed_1 _) (fun obj=>F.args_object_init_2 obj _) F.entry_reversed_new (Km t items hf) ⟨ht,?_⟩
 exact⟨⟨_,Ub _ U,U⟩,h⟩
theorem Jc {it t:Addr}{i:Nat}{items:Array Value}{x:Value}{Q:IC->TF->Prop}(hit:RIt s.heap it t (i:Int))(ht:IsTup s.heap t items)(hi:(i:Int) < 2 ^ 63)(hx:items[i]? = some x)
  (hQ:∀ h',RIt h' it t ((i:Int) - 1)->WN it s.heap h'->Q (some x) { s with heap:=h',toks:=s.toks+1 }):Ug (Up prog w) A (W7 (.ref it)) Q E s:=by
 have hT:s.TypeIs (.ref it) "reversed":=⟨_,hit,U⟩
 unfold W7
 refine Tv (W3 (Vx (name:=WM "__next__") hT dR (Vu dR hT km ?_ (mC _))))
 unfold Builtin.«reversed.__next__»
 refine Tv (W6 (a:=(U5 it,[])) U ?_)
 dsimp only
 refine Tv (Vr hit U (x:=.ref t) U (Tv (Vr hit U (x:=.int (i:Int) 0) U ?_)))
 dsimp only
 rw[if_neg (by lia)]
 refine Tv (Zx ht.typeIs slot_tuple_getitem.lookup ?_)
 rw[if_neg (by simp)]
 refine Tv (wpAny_mkInt ?_)
 have hsz:i < items.size:=(Array.getElem?_eq_some_iff.mp hx).1
 have hk:abJ (i:Int) items.size=some i:=by
  have e0:¬ ((i:Int) < 0):=by lia
  unfold abJ
  simp only[if_neg e0]
  simp [hsz]
 refine Tv (W3 (getItem_tuple (s:={ s with toks:=s.toks+1 }) (show IsTup s.heap t items from ht) (by lia) hi hk hx ?_))
 dsimp only
 refine Tv (Vr (s:={ s with toks:=s.toks+1 }) hit U (x:=.int (i:Int) 0) U ?_)
 dsimp only
 refine Tv (WK (s:={ s with toks:=s.toks+1 }) hit U (by simp) ?_)
 refine TV ⟨x,U,TV (hQ _ ?_ (VL ..))⟩
 exact Vq (Zq (·.setIfInBounds 1 (V2 ((i:Int) - 1)))) hit U
theorem Mu {it t:Addr}{Q:IC->TF->Prop}(hh:A.handled=none)(hit:RIt s.heap it t (-1))(hQ:∀ h',Heap.ExtBut it s.heap h'->Q none { s with heap:=h' }):Ug (Up prog w) A (W7 (.ref it)) Q E s:=by
 have hT:s.TypeIs (.ref it) "reversed":=⟨_,hit,U⟩
 unfold W7
 refine Tv (W3 (Vx (name:=WM "__next__") hT dR (Vu dR hT km ?_ (mC _))))
 unfold Builtin.«reversed.__next__»
 refine Tv (W6 (a:=(U5 it,[])) U ?_)
 dsimp only
 refine Tv (Vr hit U (x:=.ref t) U (Tv (Vr hit U (x:=.int (-1) 0) U ?_)))
 dsimp only
 rw[if_pos (by decide)]
 refine Tv (Xg ?_)
 refine Tv ?_
 refine (show Ug _ _ (setField (.ref it) 1 (V2 (-1)) >>= _) _ _ s from Tv (WK hit U (by simp) ?_))
 have g1:=Vq (Zq (·.setIfInBounds 1 (V2 (-1)))) hit U
 refine WK g1 U (by simp) ?_
 refine Tv ?_
 refine (show Ug _ _ (abL (.type "StopIteration") [] >>= _) _ _ _ from Tv ?_)
 simp only[abL,newTuple]
 refine Tv (Vc ?_ (by size_fits))
 refine Tv (m:=XQ _ _) (W6 (a:=U0) (by first | rfl | (simp only[XQ];rfl)) (Vc ?_ (by size_fits)))
 simp only[raiseNew]
 refine Tv (aa3 ?_)
 first | rw[show A.in1.handled=none from hh] | rw[hh]
 refine Tv (TV (abW ?_))
 refine Tv (XJ (T:="StopIteration") (b:=true) ⟨_,Ub _ U,U⟩ ZX (TV ?_))
 exact hQ _ ((((VL ..).trans (VL ..)).extBut.push _).push _)
theorem Bc {it t:Addr}{i:Int}{Q:Ix}(hI:RIt s.heap it t i)(h:Q (.ref it) s):Ug (Up prog w) A (aaT (.ref it)) Q E s:=by
 have hT:s.TypeIs (.ref it) "reversed":=⟨_,hI,U⟩
 refine abh hT my (Vu my hT rF (show Ug _ _ (ret (.ref it)) _ _ s from ?_) (uQ _))
 exact TV ⟨_,U,"reversed",_,hT,dR.lookup,h⟩
end
def Itv (K:UT)(a:Addr)(n:Nat):It :=
 ⟨fun i H=>i < n/\∃ xs x,SqT K H a xs/\xs.length=n/\xs[n - 1 - i]? = some x,fun i H x H'=>H'=H/\∀ xs,SqT K H a xs->xs[n - 1 - i]? = some x,fun i _=>i=n⟩
theorem Kd {P:Uy}{w:Ve}{K:UT}{tg:Expr}(a it:Addr)(n:Nat)(hn:(n:Int) < 2 ^ 63):Turn P w K tg (Itv K a n) [it] it (fun i h=>RIt h it a ((n:Int) - 1 - (i:Int))) where
 mem:=by simp
 obj:=fun i h st b hb=>by
  have e:b=it:=by simpa using hb
  subst e
  exact⟨_,st,fun v z=>by cases (show Data.fields _=Data.cell v from z)⟩
 keep:=fun i h h' st k=>k it (by simp) _ st
 item:=by
  intro X hP hw hK hc i ZY s σ H E I hf st hg
  subst hP hw hK
  obtain⟨hin,xs,x,hq,hlen,hx⟩:=hg
  obtain⟨its,rv,p,hz⟩:=I.tuple hq
  obtain⟨u,hu,ru⟩:=rv.get hx
  obtain⟨f0,f1,f2,f3,f4,f5⟩:=hf it (by simp)
  have e:(n:Int) - 1 - (i:Int)=((n - 1 - i:Nat):Int):=by lia
  have st':RIt s.heap it a ((n - 1 - i:Nat):Int):=by rw[← e];exact st
  refine Jc st' p (by lia) (x:=u) (by simpa using hu) fun h' st2 sb=>?_
  have e2:((n - 1 - i:Nat):Int) - 1=(n:Int) - 1 - ((i+1:Nat):Int):=by lia
  rw[e2] at st2
  have I1:Inv X ZY σ H { s with heap:=h',toks:=s.toks+1 }:=I.turned (t':=s.toks+1) (fun b o hb e=>(sb.2 b hb).trans e) f0 f1 f3 f4 f5
  exact⟨u,U,Io (s:={ s with heap:=h',toks:=s.toks+1 }) st2 U U (by decide) ⟨x,H,I1,ru,⟨U,fun ys hy=>by rw[I.iC hy hq];exact hx⟩,st2,fun b hb=>(hf b hb).1⟩⟩
 done:=by
  intro X hP hw hK hc i ZY s σ H E I hf st hg
  subst hP hw hK
  cases (show i=n from hg)
  obtain⟨f0,f1,f2,f3,f4,f5⟩:=hf it (by simp)
  have st':RIt s.heap it a (-1):=by
   have e:(n:Int) - 1 - (n:Int) = -1:=by lia
   rw[← e];exact st
  exact Mu (I.ok.hd hc) st' fun h' eb=>⟨U,I.turned (t':=s.toks) (fun b o hb e=>eb b o hb e) f0 f1 f3 f4 f5⟩
 self:=fun _ _ _ _ _ st h=>Bc st h
def Tt (K:UT)(ta:TA):TI:=fun σ H R=>ta σ H fun vs H1=>∃ a xs,vs=[.ref a]/\SqT K H1 a xs/\R (Itv K a xs.length) H1
theorem Qe {X:Cx} {tg:Expr} {a:Expr} {ta:TA} {p pos:YM} (hg:Gl X "reversed") (hm:X.mg "reversed" = none) (ha:PA X [a] ta) (hs:U9 [a] X.env=[(false,W8 a X.env)]:=by rfl) :
  PI X tg (.Call (.Name "reversed" p) [a] [] pos) (Tt X.K ta):=by
 intro ZY s σ H R I h
 refine Call_ (jx I hg hm boot_reversed (V1 (thn (ha pos ZY s σ H _ I h) fun us s1 ⟨vs,H1,I1,r1,q1⟩=>?_) hs U))
 obtain⟨c,xs,e,hx,q⟩:=q1
 subst e
 obtain⟨u1,rfl,ru1⟩:=vals1 r1
 cases ru1
 obtain⟨its,rv,tp,hz⟩:=I1.tuple hx
 have hl:=rv.length
 have hn:=sE
 have hsz:((its.toArray.size:Nat):Int) < 2 ^ 63:=by rw[Ue,← hl];lia
 refine Fo tp hsz ?_
 have g:RIt (s1.heap.push { cls:=.type "reversed",data:=.fields #[.ref c,.int ((its.toArray.size:Int) - 1) 0] }) s1.heap.objs.size c ((xs.length:Int) - 1 - ((0:Nat):Int)):=by
  have e:((xs.length:Int) - 1 - ((0:Nat):Int))=(its.toArray.size:Int) - 1:=by rw[Ue,← hl];lia
  rw[e]
  exact Ub _ U
 refine Bc g ⟨s1.heap.objs.size,[s1.heap.objs.size],_,_,H1,U,I1.kept (t':=s1.toks+1+1) fun b o e=>Tz _ e,Kd c _ xs.length (by lia),g,fun b hb=>?_,q⟩
 have e:b=s1.heap.objs.size:=by simpa using hb
 subst e
 exact I1.Im (Ua _) (I1.hok.fresh (Ua _))
theorem Ow {K:UT}{a:Addr}{xs:List V}{g:TG}{tb:TS}{D:Ends}{σ:St}{H:Hp}(Pv:Nat->St->Hp->Prop)(h0:Pv 0 σ H)(hl:∀ i σ H,i<=xs.length->Pv i σ H->SqT K H a xs)
  (hs:∀ i x σ H,i < xs.length->xs[xs.length - 1 - i]? = some x->Pv i σ H->g x σ H fun σ2 H2=>tb { D with nx:=Pv (i+1),ct:=Pv (i+1),bk:=D.nx } σ2 H2) (hd:∀ σ H,Pv xs.length σ H->D.nx σ H) :
  ∃ W:Nat->Nat->St->Hp->Prop,(∃ m,W 0 m σ H)/\∀ i m σ H,W i m σ H →
   ((Itv K a xs.length).stop i H/\D.nx σ H)∨((Itv K a xs.length).go i H/\∃ N:St->Hp->Prop,(∀ σ' H',N σ' H'->∃ m',m' < m/\W (i+1) m' σ' H')/\∀ x H',(Itv K a xs.length).yld i H x H'->g x σ H' fun σ2 H2=>tb { D with nx:=N,ct:=N,bk:=D.nx } σ2 H2):=by
 refine⟨fun i m σ H=>m=xs.length - i/\i<=xs.length/\Pv i σ H,⟨xs.length,by simp,Uw _,h0⟩,?_⟩
 rintro i m σ H ⟨rfl,hi,p⟩
 have q1:=hl i σ H hi p
 by_cases hlt:i < xs.length
 ·refine .inr ⟨⟨hlt,xs,xs[xs.length - 1 - i],q1,U,TJ (by lia)⟩,Pv (i+1),fun σ' H' p'=>⟨xs.length - (i+1),by lia,U,hlt,p'⟩,fun v H' y=>?_⟩
  obtain⟨rfl,hx⟩:=y
  exact hs i v σ _ hlt (hx xs q1) p
 ·have e:i=xs.length:=by lia
  subst e
  exact .inl ⟨U,hd σ H p⟩
section
variable {prog:Uy}{w:Ve}{A:Vf}{E:Ix}{s:TF}
theorem n8 {h h':Vv}{a t:Addr}{its:Array Value}(ht:h.IsList t its)(sb:WN a h h')(ne:t≠a):h'.IsList t its:=by
 obtain⟨o,e,r⟩:=ht
 exact⟨o,(sb.2 t ne).trans e,r⟩
theorem cT {h h':Vv}{a it t:Addr}{i:Nat}(ht:h.IsListIter it t i)(sb:WN a h h')(ne:it≠a):h'.IsListIter it t i:=by
 obtain⟨o,e,r⟩:=ht
 exact⟨o,(sb.2 it ne).trans e,r⟩
theorem LK {z p q i1 i2 l1 l2:Addr}{k:Nat}{xs ys:Array Value}{x y a b:Value}{Q:IC->TF->Prop}(D:Zap z p q i1 i2 l1 l2)
  (hz:Yh s.heap z p q .none) (hp:YF s.heap p (.ref i1) (.ref i2)) (hq:YF s.heap q a b) (j1:s.heap.IsTupleIter i1 l1 k) (j2:s.heap.IsListIter i2 l2 k) (t1:s.heap.IsTuple l1 xs) (t2:s.heap.IsList l2 ys)
  (hx:xs[k]? = some x) (hy:ys[k]? = some y)
  (hQ:∀ h',Yh h' z p q (V2 s.heap.objs.size)->YF h' q x y->h'.IsTupleIter i1 l1 (k+1)->h'.IsListIter i2 l2 (k+1)->YF h' s.heap.objs.size x y->h'.objs.size=s.heap.objs.size+1 →
   (∀ c o,c≠z->c≠q->c≠i1->c≠i2->s.heap.get? c=some o->h'.get? c=some o)->Q (some (.ref s.heap.objs.size)) { s with heap:=h' }):Ug (Up prog w) A (W7 (.ref z)) Q E s:=by
 have hT:s.TypeIs (.ref z) "zip":=⟨_,hz,U⟩;unfold W7
 refine Tv (W3 (Vx (name:=WM "__next__") hT Xq (Vu Xq hT aau ?_ (aaf _))))
 show Ug _ _ (aa4 (.ref z) 2 >>= _) _ _ _;refine Tv (Vr hz U (x:=.bool false) U ?_)
 show Ug _ _ (aa4 (.ref z) 3 >>= _) _ _ _;refine Tv (Vr hz U (x:=.ref p) U ?_);refine Tv (VH hp U ?_)
 show Ug _ _ (Vy (.ref z) >>= _) _ _ _;refine Tv ?_;unfold Vy
 refine Tv (Vr hz U (x:=.none) U (TV ?_));simp only[if_true];refine Tv (Xg ?_);refine Tv (Vr hz U (x:=.ref q) U ?_)
 refine Tv (V7 hz (by simp) fun h1 z1 b1=>?_);replace z1:Yh h1 z p q .ellipsis:=z1
 refine Tv ?_;simp only[Zn,aaI,Xo,XS];refine Tv (Tv (Yj ?_))
 show Ug _ _ (Vo (.ref i1) >>= _) _ _ _;refine Tv (pQ (c7 j1 b1 D.az) (jw t1 b1 D.xz) hx fun h2 u1 b2=>TV ?_)
 have q2:YF h2 q a b:=(b2.2 _ D.qa).trans ((b1.2 _ D.qz).trans hq);refine Tv (VH q2 U ?_);refine Tv (aaQ q2 fun h3 q3 b3=>?_)
 replace q3:YF h3 q x b:=q3;refine Tv (X3 (TV ?_));refine Tv (Tv (Yj ?_))
 show Ug _ _ (Vo (.ref i2) >>= _) _ _ _
 refine Tv (wpAny_nextOf_list_item (cT (cT (cT j2 b1 D.bz) b2 D.ab.symm) b3 D.qb.symm) (n8 (n8 (n8 t2 b1 D.yz) b2 D.ya) b3 D.yq) hy fun h4 u2 b4=>TV ?_)
 have q4:YF h4 q x b:=(b4.2 _ D.qb).trans q3;refine Tv (VH q4 U ?_);refine Tv (aaQ q4 fun h5 q5 b5=>?_)
 replace q5:YF h5 q x y:=q5;refine Tv (X3 (TV (TV ?_)));refine Tv (VH q5 U ?_);refine Tv (aaR ?_)
 have sz:h5.objs.size=s.heap.objs.size:=by rw[b5.1,b4.1,b3.1,b2.1,b1.1]
 have z5:Yh h5 z p q .ellipsis:=(b5.2 _ D.qz.symm).trans ((b4.2 _ D.bz.symm).trans ((b3.2 _ D.qz.symm).trans ((b2.2 _ D.az.symm).trans z1)))
 have kp:∀ c o,c≠z->c≠q->c≠i1->c≠i2->s.heap.get? c=some o->h5.get? c=some o:=fun c o c1 c2 c3 c4 e=>(b5.2 c c2).trans ((b4.2 c c4).trans ((b3.2 c c2).trans ((b2.2 c c3).trans ((b1.2 c c1).trans e))))
 have u15:h5.IsTupleIter i1 l1 (k+1):=c7 (c7 (c7 u1 b3 D.qa.symm) b4 D.ab) b5 D.qa.symm
 have u25:h5.IsListIter i2 l2 (k+1):=cT u2 b5 D.qb.symm
 have zl:z < h5.objs.size:=Uk z5
 show Ug _ _ (Xc (.ref z) (.ref h5.objs.size) >>= _) _ _ _;refine Tv ?_;unfold Xc
 have z6:Yh (h5.push { cls:=.type "tuple",data:=.seq #[x,y] }) z p q .ellipsis:=Tz _ z5
 refine Tv (V7 z6 (by simp) fun h7 z7 b7=>?_);replace z7:Yh h7 z p q (V2 h5.objs.size):=z7
 refine V7 z7 (by simp) fun h8 z8 b8=>?_;replace z8:Yh h8 z p q (V2 h5.objs.size):=z8
 have up:∀ c o,c≠z->h5.get? c=some o->h8.get? c=some o:=fun c o c1 e=>(b8.2 c c1).trans ((b7.2 c c1).trans (Tz _ e))
 have t8:YF h8 h5.objs.size x y:=(b8.2 _ (Wg zl)).trans ((b7.2 _ (Wg zl)).trans (Ub _ U))
 have s8:h8.objs.size=h5.objs.size+1:=by rw[b8.1,b7.1,Vt]
 rw[sz] at z8 t8 s8;refine TV ⟨_,U,?_⟩
 show Ug _ _ _ _ _ _
 rw[sz]
 exact TV (hQ h8 z8 (up _ _ D.qz q5) (by obtain⟨o,e,r⟩:=u15;exact⟨o,up _ o D.az e,r⟩) (by obtain⟨o,e,r⟩:=u25;exact⟨o,up _ o D.bz e,r⟩) t8 s8 fun c o c1 c2 c3 c4 e=>up c o c1 (kp c o c1 c2 c3 c4 e))
theorem Mf {z p q i1 i2 l1 l2:Addr}{k:Nat}{xs ys:Array Value}{a b:Value}{Q:Fin->TF->Prop}(hh:A.handled=none)(D:Zap z p q i1 i2 l1 l2)
  (hz:Yh s.heap z p q .none) (hp:YF s.heap p (.ref i1) (.ref i2)) (hq:YF s.heap q a b) (j1:s.heap.IsTupleIter i1 l1 k) (j2:s.heap.IsListIter i2 l2 k) (t1:s.heap.IsTuple l1 xs) (t2:s.heap.IsList l2 ys)
  (hend:xs[k]? = none∨ys[k]? = none) (hE:∀ h' e,(∀ c o,c≠z->c≠q->c≠i1->c≠i2->s.heap.get? c=some o->h'.get? c=some o)->(∃ o,h'.get? e=some o/\o.cls = .type "StopIteration")->E (.ref e) { s with heap:=h' }) :
  Ug (Up prog w) A (Builtin.«zip.__next__» ⟨[.ref z],[]⟩) Q E s:=by
 show Ug _ _ (aa4 (.ref z) 2 >>= _) _ _ _;refine Tv (Vr hz U (x:=.bool false) U ?_)
 show Ug _ _ (aa4 (.ref z) 3 >>= _) _ _ _;refine Tv (Vr hz U (x:=.ref p) U ?_);refine Tv (VH hp U ?_)
 show Ug _ _ (Vy (.ref z) >>= _) _ _ _;refine Tv ?_;unfold Vy
 refine Tv (Vr hz U (x:=.none) U (TV ?_));simp only[if_true];refine Tv (Xg ?_);refine Tv (Vr hz U (x:=.ref q) U ?_)
 refine Tv (V7 hz (by simp) fun h1 z1 b1=>?_);replace z1:Yh h1 z p q .ellipsis:=z1
 refine Tv ?_;simp only[Zn,aaI,Xo,XS];refine Tv (Tv (Yj ?_))
 show Ug _ _ (Vo (.ref i1) >>= _) _ _ _
 cases hx:xs[k]? with
 | none =>
  refine Tv (K5 hh (c7 j1 b1 D.az) (jw t1 b1 D.xz) hx fun h2 e b2 he=>?_)
  obtain⟨oe,ho,hc⟩:=he
  have z2:Yh h2 z p q .ellipsis:=b2 _ _ D.az.symm z1
  have ez:e≠z:=fun u=>by subst u;rw[z2] at ho;cases ho;simp at hc
  exact V7 z2 (by simp) fun h3 _ b3=>hE h3 e (fun c o c1 _ c3 _ u=>(b3.2 c c1).trans (b2 _ _ c3 ((b1.2 c c1).trans u))) ⟨oe,(b3.2 e ez).trans ho,hc⟩
 | some x =>
  have hy:ys[k]? = none:=hend.elim (fun u=>by rw[hx] at u;cases u) id
  refine Tv (pQ (c7 j1 b1 D.az) (jw t1 b1 D.xz) hx fun h2 u1 b2=>TV ?_)
  have q2:YF h2 q a b:=(b2.2 _ D.qa).trans ((b1.2 _ D.qz).trans hq);refine Tv (VH q2 U ?_);refine Tv (aaQ q2 fun h3 q3 b3=>?_)
  refine Tv (X3 (TV ?_));refine Tv (Tv (Yj ?_));show Ug _ _ (Vo (.ref i2) >>= _) _ _ _
  refine Tv (wpAny_nextOf_list_end hh (cT (cT (cT j2 b1 D.bz) b2 D.ab.symm) b3 D.qb.symm) (n8 (n8 (n8 t2 b1 D.yz) b2 D.ya) b3 D.yq) hy fun h4 e b4 he=>?_)
  obtain⟨oe,ho,hc⟩:=he
  have z4:Yh h4 z p q .ellipsis:=b4 _ _ D.bz.symm ((b3.2 _ D.qz.symm).trans ((b2.2 _ D.az.symm).trans z1))
  have ez:e≠z:=fun u=>by subst u;rw[z4] at ho;cases ho;simp at hc
  exact V7 z4 (by simp) fun h5 _ b5=>hE h5 e (fun c o c1 c2 c3 c4 u=>(b5.2 c c1).trans (b4 _ _ c4 ((b3.2 c c2).trans ((b2.2 c c3).trans ((b1.2 c c1).trans u))))) ⟨oe,(b5.2 e ez).trans ho,hc⟩
theorem Pg {z p q i1 i2 l1 l2:Addr}{k:Nat}{xs ys:Array Value}{a b:Value}{Q:IC->TF->Prop}(hh:A.handled=none)(D:Zap z p q i1 i2 l1 l2)
  (hz:Yh s.heap z p q .none) (hp:YF s.heap p (.ref i1) (.ref i2)) (hq:YF s.heap q a b) (j1:s.heap.IsTupleIter i1 l1 k) (j2:s.heap.IsListIter i2 l2 k) (t1:s.heap.IsTuple l1 xs) (t2:s.heap.IsList l2 ys)
  (hend:xs[k]? = none∨ys[k]? = none) (hQ:∀ h',(∀ c o,c≠z->c≠q->c≠i1->c≠i2->s.heap.get? c=some o->h'.get? c=some o)->Q none { s with heap:=h' }):Ug (Up prog w) A (W7 (.ref z)) Q E s:=by
 have hT:s.TypeIs (.ref z) "zip":=⟨_,hz,U⟩;unfold W7
 refine Tv (W3 (Vx (name:=WM "__next__") hT Xq (Vu Xq hT aau (Mf hh D hz hp hq j1 j2 t1 t2 hend fun h' e kp he=>?_) (aaf _))))
 obtain⟨o,ho,hc⟩:=he
 exact Tv (XJ (T:="StopIteration") (b:=true) ⟨o,ho,hc⟩ ZX (TV (hQ _ kp)))
abbrev uB (h:Vv)(t:Addr):Vv:=h.push { cls:=.type "list_iterator",data:=.fields #[.ref t,.int 0 0] }
abbrev uC (h:Vv)(t u:Addr):Vv:=(uB (zA h t) u).push { cls:=.type "tuple",data:=.seq #[.ref h.objs.size,.ref (zA h t).objs.size] }
abbrev uD (h:Vv)(t u:Addr):Vv:=(uC h t u).push { cls:=.type "tuple",data:=.seq #[.none,.none] }
abbrev uE (h:Vv)(t u:Addr):Vv:=(uD h t u).push { cls:=.type "zip",data:=.fields #[.none,.bool false,.bool false,.ref (uB (zA h t) u).objs.size,.ref (uC h t u).objs.size] }
theorem Qh (l1 l2:Addr)(xs ys:Array Value) :
  abw (Builtin.«zip.__new__» ⟨[.type "zip",.ref l1,.ref l2],[]⟩) (fun _ R s=>s.heap.IsTuple l1 xs/\s.heap.IsList l2 ys/\R (.ok (.ret (.ref (uD s.heap l1 l2).objs.size))) { s with heap:=uE s.heap l1 l2 }) :=
 .of_wp fun prog w A R s h=>by
  obtain⟨hp,g,d,tk,os⟩:=s;obtain⟨a1,a2,h⟩:=h;have hsub:=sub_zip
  have T1:abD (aab ⟨hp,g,d,tk,os⟩) l1 xs:=a1
  have T2:Heap.IsList (aab ⟨hp.push { cls:=.type "tuple_iterator",data:=.fields #[.ref l1,.int 0 0] },g,d,tk,os⟩) l2 ys:=by
   obtain⟨o,e,r⟩:=a2
   exact⟨o,Tz _ e,r⟩
  wp_walk using X4 T1,Xr T2
  exact⟨_,U,h⟩
theorem LQ {l1 l2:Addr}{xs ys:Array Value}{Q:Ix}(t1:s.heap.IsTuple l1 xs)(t2:s.heap.IsList l2 ys)
  (h:∀ h',Yh h' (s.heap.objs.size+4) (s.heap.objs.size+2) (s.heap.objs.size+3) .none->YF h' (s.heap.objs.size+2) (.ref s.heap.objs.size) (.ref (s.heap.objs.size+1))->YF h' (s.heap.objs.size+3) .none .none →
   h'.IsTupleIter s.heap.objs.size l1 0->h'.IsListIter (s.heap.objs.size+1) l2 0->(∀ c o,s.heap.get? c=some o->h'.get? c=some o)->Q (.ref (s.heap.objs.size+4)) { s with heap:=h' }) :
  Ug (Up prog w) A (call (.type "zip") [.ref l1,.ref l2]) Q E s:=by
 refine abp F.called_zip (by decide) (F.typeCall_zip_2 _ _) (F.newCall_zip_2 _ _) (fun obj=>F.args_object_init_3 obj _ _) F.entry_zip_new (Qh l1 l2 xs ys) ⟨t1,t2,?_⟩
 have y1:(zA s.heap l1).objs.size=s.heap.objs.size+1:=Vt ..
 have y2:(uB (zA s.heap l1) l2).objs.size=s.heap.objs.size+2:=by rw[Vt,y1]
 have y3:(uC s.heap l1 l2).objs.size=s.heap.objs.size+3:=by rw[Vt,y2]
 have y4:(uD s.heap l1 l2).objs.size=s.heap.objs.size+4:=by rw[Vt,y3]
 have w5:(uE s.heap l1 l2).get? (uD s.heap l1 l2).objs.size=some _:=Ub _ U
 have w4:(uE s.heap l1 l2).get? (uC s.heap l1 l2).objs.size=some _:=Tz _ (Ub _ U)
 have w3:(uE s.heap l1 l2).get? (uB (zA s.heap l1) l2).objs.size=some _:=Tz _ (Tz _ (Ub _ U))
 have w2:(uE s.heap l1 l2).get? (zA s.heap l1).objs.size=some _:=Tz _ (Tz _ (Tz _ (Ub _ U)))
 have w1:(uE s.heap l1 l2).get? s.heap.objs.size=some _:=Tz _ (Tz _ (Tz _ (Tz _ (Ub _ U))))
 show _/\_
 rw[y2,y3,y4] at w5;rw[y1,y2] at w3;rw[y3] at w4;rw[y1] at w2;rw[y4]
 exact⟨⟨_,w5,U⟩,h _ w5 w3 w4 ⟨_,w1,U,U⟩ ⟨_,w2,U,U⟩ fun c o u=>Tz _ (Tz _ (Tz _ (Tz _ (Tz _ u))))⟩
end
def Itu (K : UT)(a b : Addr) : It :=
  ⟨fun i H => ∃ xs ys x y, SqT K H a xs ∧ SqL K H b ys ∧ xs[i]? = some x ∧ ys[i]? = some y,
   fun i H v H' => ∃ p x y, H p = none ∧ v = .ref p ∧ (∀ xs, SqT K H a xs → xs[i]? = some x) ∧ (∀ ys, SqL K H b ys → ys[i]? = some y) ∧ H' = upd H p (.tup [x, y]),
   fun i H => ∃ xs ys, SqT K H a xs ∧ SqL K H b ys ∧ (xs.length ≤ i ∨ ys.length ≤ i)⟩
def tnU (z p q i1 i2 a b:Addr)(i:Nat)(h:Vv):Prop:=Yh h z p q .none/\YF h p (.ref i1) (.ref i2)/\(∃ u v,YF h q u v)/\h.IsTupleIter i1 a i/\h.IsListIter i2 b i
theorem J9 {P:Uy}{w:Ve}{K:UT}{elts:IJ}{x1}{pos:YM}{z p q i1 i2 a b:Addr}(D:Zap z p q i1 i2 a b) :
  Turn P w K (.Tuple elts x1 pos) (Itu K a b) [z,p,q,i1,i2] z (tnU z p q i1 i2 a b) where
 mem:=by simp
 obj:=fun i h st c hc=>by
  obtain⟨hz,hp,⟨u,v,hq⟩,⟨o1,e1,_,d1⟩,⟨o2,e2,_,d2⟩⟩:=st
  simp only[VG,V3,or_false] at hc
  rcases hc with rfl | rfl | rfl | rfl | rfl
  ·exact⟨_,hz,fun v z=>by cases z⟩
  ·exact⟨_,hp,fun v z=>by cases z⟩
  ·exact⟨_,hq,fun v z=>by cases z⟩
  ·exact⟨_,e1,fun v z=>by rw[d1] at z;cases z⟩
  ·exact⟨_,e2,fun v z=>by rw[d2] at z;cases z⟩
 keep:=fun i h h' st k=>by
  obtain⟨hz,hp,⟨u,v,hq⟩,⟨o1,e1,r1⟩,⟨o2,e2,r2⟩⟩:=st
  exact⟨k z (by simp) _ hz,k p (by simp) _ hp,⟨u,v,k q (by simp) _ hq⟩,⟨o1,k i1 (by simp) _ e1,r1⟩,⟨o2,k i2 (by simp) _ e2,r2⟩⟩
 item:=by
  intro X hP hw hK hc i ZY s σ H E I hf st hg
  subst hP hw hK
  obtain⟨xs,ys,x,y,hx,hy,ex,ey⟩:=hg
  obtain⟨hz,hp,⟨u,v,hq⟩,j1,j2⟩:=st
  obtain⟨its,rv,tp,_⟩:=I.tuple hx
  obtain⟨its2,rv2,tp2,_⟩:=I.list hy
  obtain⟨xu,hxu,rx⟩:=rv.get ex
  obtain⟨yu,hyu,ry⟩:=rv2.get ey
  refine LK D hz hp hq j1 j2 (show s.heap.IsTuple a its.toArray from tp) (show s.heap.IsList b its2.toArray from tp2.isList) (x:=xu) (y:=yu) (by simpa using hxu) (by simpa using hyu) fun h' z' q' u1 u2 t' _ kp=>⟨_,U,?_⟩
  refine wpAny_letOwnedTupleGo_zip z' fun h2 z2 b2=>?_
  have lt:∀ {c o},s.heap.get? c=some o->c < s.heap.objs.size:=fun e=>Uk e
  have zne:s.heap.objs.size≠z:=Wg (lt hz)
  have hfr:H s.heap.objs.size=none:=I.fresh
  have I1:Inv X ZY σ (upd H s.heap.objs.size (.tup [x,y])) { s with heap:=s.heap.push { cls:=.type "tuple",data:=.seq #[xu,yu] } } :=
   I.laid (t':=s.toks) (fun _ _ e=>Tz _ e) (Ua _) ⟨by show 2<=sizeLine;decide,[xu,yu],.cons rx (.cons ry .nil),⟨_,Ub _ U,U,_,U⟩⟩
  have blt:∀ c∈[z,p,q,i1,i2],c < s.heap.objs.size:=fun c hc=>by
   obtain⟨_,e1,_⟩:=j1
   obtain⟨_,e2,_⟩:=j2
   simp only[VG,V3,or_false] at hc
   rcases hc with rfl | rfl | rfl | rfl | rfl
   ·exact lt hz
   ·exact lt hp
   ·exact lt hq
   ·exact lt e1
   ·exact lt e2
  have ff:∀ c∈[z,p,q,i1,i2],tM X ZY (upd H s.heap.objs.size (.tup [x,y])) c:=fun c hc=>by
   obtain⟨f0,fr⟩:=hf c hc
   exact⟨by rw[aR (Uq (blt c hc))];exact f0,fr⟩
  have kk:∀ c o,c ∉ [z,q,i1,i2]->(s.heap.push { cls:=.type "tuple",data:=.seq #[xu,yu] }).get? c=some o->h2.get? c=some o:=fun c o hc e=>by
   have c1:c≠z:=fun h=>hc (by simp [h])
   refine (b2.2 c c1).trans ?_
   rcases Zw e with⟨ec,eo⟩ | e'
   ·subst ec
    subst eo
    exact t'
   ·exact kp c o c1 (fun h=>hc (by simp [h])) (fun h=>hc (by simp [h])) (fun h=>hc (by simp [h])) e'
  have I2:Inv X ZY σ (upd H s.heap.objs.size (.tup [x,y])) { s with heap:=h2 } :=
   Inv.jO (s:={ s with heap:=s.heap.push { cls:=.type "tuple",data:=.seq #[xu,yu] } }) (h':=h2) (t':=s.toks) (ch:=[z,q,i1,i2]) I1 kk fun c hc=>ff c (by
    simp only[VG] at hc ⊢
    rcases hc with h | h | h | h
    ·exact .inl h
    ·exact .inr (.inr (.inl h))
    ·exact .inr (.inr (.inr (.inl h)))
    ·exact .inr (.inr (.inr (.inr h))))
  refine⟨.ref s.heap.objs.size,_,I2,U,⟨_,x,y,hfr,U,fun zs hzs=>?_,fun zs hzs=>?_,U⟩,⟨z2,(b2.2 _ D.pz).trans (kp _ _ D.pz D.pq D.pa D.pb hp),⟨_,_,(b2.2 _ D.qz).trans q'⟩,c7 u1 b2 D.az,cT u2 b2 D.bz⟩,fun c hc=>(ff c hc).1⟩
  ·rw[I.iC hzs hx];exact ex
  ·rw[I.pC hzs hy];exact ey
 done:=by
  intro X hP hw hK hc i ZY s σ H E I hf st hg
  subst hP hw hK
  obtain⟨xs,ys,hx,hy,hend⟩:=hg
  obtain⟨hz,hp,⟨u,v,hq⟩,j1,j2⟩:=st
  obtain⟨its,rv,tp,_⟩:=I.tuple hx
  obtain⟨its2,rv2,tp2,_⟩:=I.list hy
  have l1:=rv.length
  have l2:=rv2.length
  refine Pg (I.ok.hd hc) D hz hp hq j1 j2 (show s.heap.IsTuple a its.toArray from tp) (show s.heap.IsList b its2.toArray from tp2.isList) (hend.imp (fun h=>by simp;lia) fun h=>by simp;lia) fun h' kp=>⟨U,?_⟩
  exact I.jO (t':=s.toks) (ch:=[z,q,i1,i2]) (fun c o hc e=>kp c o (fun h=>hc (by simp [h])) (fun h=>hc (by simp [h])) (fun h=>hc (by simp [h])) (fun h=>hc (by simp [h])) e)
   fun c hc=>hf c (by simp only[VG] at hc ⊢;rcases hc with h | h | h | h;exact .inl h;exact .inr (.inr (.inl h));exact .inr (.inr (.inr (.inl h)));exact .inr (.inr (.inr (.inr h))))
 self:=fun _ _ _ _ _ st h=>aan st.1 h
def Tj (K:UT)(ta:TA):TI:=fun σ H R=>ta σ H fun vs H1=>∃ a b xs ys,vs=[.ref a,.ref b]/\SqT K H1 a xs/\SqL K H1 b ys/\R (Itu K a b) H1
theorem K7 {X:Cx} {elts:IJ} {x1} {tpos:YM} {a b:Expr} {ta:TA} {p pos:YM} (hg:Gl X "zip") (hm:X.mg "zip" = none) (ha:PA X [a,b] ta) (hs:U9 [a,b] X.env=[(false,W8 a X.env),(false,W8 b X.env)]:=by rfl) (hs2:U9 [b] X.env=[(false,W8 b X.env)]:=by rfl) :
  PI X (.Tuple elts x1 tpos) (.Call (.Name "zip" p) [a,b] [] pos) (Tj X.K ta):=by
 intro ZY s σ H R I h
 refine Call_ (jx I hg hm boot_zip (V1 (thn (ha pos ZY s σ H _ I h) fun us s1 ⟨vs,H1,I1,r1,q1⟩=>?_) (by rw[hs,hs2]) (by rw[hs2];rfl)))
 obtain⟨c,d,xs,ys,e,hx,hy,q⟩:=q1
 subst e
 obtain⟨u1,u2,rfl,ru1,ru2⟩:=vals2 r1
 cases ru1
 cases ru2
 obtain⟨its,_,tp,_⟩:=I1.tuple hx
 obtain⟨its2,_,tp2,_⟩:=I1.list hy
 refine LQ (show s1.heap.IsTuple c its.toArray from tp) (show s1.heap.IsList d its2.toArray from tp2.isList) fun h' z' p' q' j1 j2 kp=>?_
 have lc:c < s1.heap.objs.size:=by obtain⟨o,e,_⟩:=tp;exact Uk e
 have ld:d < s1.heap.objs.size:=by obtain⟨o,e,_⟩:=tp2.isList;exact Uk e
 have D:Zap (s1.heap.objs.size+4) (s1.heap.objs.size+2) (s1.heap.objs.size+3) s1.heap.objs.size (s1.heap.objs.size+1) c d:=NQ lc ld
 refine aan z' ⟨_,_,_,_,H1,U,I1.kept (t':=s1.toks) kp,J9 D,⟨z',p',⟨_,_,q'⟩,j1,j2⟩,fun e he=>?_,q⟩
 have hle:s1.heap.objs.size<=e:=by
  simp only[VG,V3,or_false] at he
  rcases he with rfl | rfl | rfl | rfl | rfl <;> lia
 exact I1.Im hle (I1.hok.fresh hle)
theorem BR {K:UT}{a b D:Addr}{xs ys:List V}{g:TG}{tt:TT}{te:TE}{H1:Hp}{Q:Hp->Prop}{σ0:St}(hlen:xs.length=ys.length)(Pv:Nat->List V->St->Hp->Prop)(h0:Pv 0 [] σ0 (upd H1 D (.lst [])))
  (hl:∀ i zs σ H,i<=xs.length->Pv i zs σ H->SqT K H a xs/\SqL K H b ys/\H D=some (.lst zs))
  (hs:∀ i zs x y p σ H,xs[i]? = some x->ys[i]? = some y->H p=none->Pv i zs σ H->g (.ref p) σ (upd H p (.tup [x,y])) fun σ3 H3=>tt σ3 H3 fun c H4=>if c=true then te σ3 H4 fun v H5=>H5 D=some (.lst zs)/\zs.length < sizeLine/\Pv (i+1) (zs++[v]) σ3 (upd H5 D (.lst (zs++[v]))) else Pv (i+1) zs σ3 H4)
  (hd:∀ zs σ H,Pv xs.length zs σ H->Q H):iw D σ0 (Itu K a b) g tt te H1 Q:=by
 refine⟨fun i m zs σ H=>m=xs.length - i/\i<=xs.length/\Pv i zs σ H,⟨xs.length,by simp,Uw _,h0⟩,?_⟩
 rintro i m zs σ H ⟨rfl,hi,p⟩
 obtain⟨q1,q2,qD⟩:=hl i zs σ H hi p
 refine⟨qD,?_⟩
 by_cases hlt:i < xs.length
 ·have hlt2:i < ys.length:=by lia
  refine .inr ⟨⟨xs,ys,xs[i],ys[i],q1,q2,by simp [hlt],by simp [hlt2]⟩,Pv (i+1),fun zs' σ' H' p'=>⟨xs.length - (i+1),by lia,U,hlt,p'⟩,fun v H' y=>?_⟩
  obtain⟨pp,x,y,hp,rfl,hx,hy,rfl⟩:=y
  exact hs i zs x y pp σ _ (hx xs q1) (hy ys q2) hp p
 ·have e:i=xs.length:=by lia
  subst e
  exact .inl ⟨⟨xs,ys,q1,q2,.inl (Ua _)⟩,hd zs σ H p⟩
def Itn (K : UT)(a : Addr) : It :=
  ⟨fun i H => ∃ xs x, SqL K H a xs ∧ xs[i]? = some x,
   fun i H v H' => ∃ p x, H p = none ∧ v = .ref p ∧ (∀ xs, SqL K H a xs → xs[i]? = some x) ∧ H' = upd H p (.tup [.int (i : Int), x]),
   fun i H => ∃ xs, SqL K H a xs ∧ xs.length ≤ i⟩
def tnN (e it a:Addr)(i:Nat)(h:Vv):Prop:=(∃ old,IsEnum h e it (i:Int) old)/\h.IsListIter it a i
theorem Hs {P:Uy}{w:Ve}{K:UT}{elts:IJ}{x1}{pos:YM}{e it a:Addr}(hne:e≠it) :
  Turn P w K (.Tuple elts x1 pos) (Itn K a) [e,it] e (tnN e it a) where
 mem:=by simp
 obj:=fun i h st c hc=>by
  obtain⟨⟨old,he⟩,⟨o,ho,_,d⟩⟩:=st
  simp only[VG,V3,or_false] at hc
  rcases hc with rfl | rfl
  ·exact⟨_,he,fun v z=>by cases z⟩
  ·exact⟨_,ho,fun v z=>by rw[d] at z;cases z⟩
 keep:=fun i h h' st k=>by
  obtain⟨⟨old,he⟩,j⟩:=st
  exact⟨⟨old,k e (by simp) _ he⟩,j.at fun o q=>k it (by simp) o q⟩
 item:=by
  intro X hP hw hK hc i ZY s σ H E I hf st hg
  subst hP hw hK
  obtain⟨xs,x,hx,ex⟩:=hg
  obtain⟨⟨old,he⟩,j⟩:=st
  obtain⟨its,rv,pl,_⟩:=I.list hx
  obtain⟨xu,hxu,rx⟩:=rv.get ex
  refine wpAny_pyNext_enum_item he j pl.isList (x:=xu) (by simpa using hxu) hne fun h' e1 j1 t1 z1 kp=>⟨_,U,?_⟩
  refine wpAny_letOwnedTupleGo_enum e1 fun h2 e2 b2=>?_
  have el:e < s.heap.objs.size:=Uk he
  have il:it < s.heap.objs.size:=by obtain⟨o,q,_⟩:=j;exact Uk q
  have I1:Inv X ZY σ (upd H s.heap.objs.size (.tup [.int (i:Int),x])) { s with heap:=s.heap.push { cls:=.type "tuple",data:=.seq #[.int i s.toks,xu] },toks:=s.toks+1 } :=
   I.laid (t':=s.toks+1) (fun _ _ q=>Tz _ q) (Ua _) ⟨by show 2<=sizeLine;decide,[.int i s.toks,xu],.cons ⟨_,U⟩ (.cons rx .nil),⟨_,Ub _ U,U,_,U⟩⟩
  have ff:∀ c∈[e,it],tM X ZY (upd H s.heap.objs.size (.tup [.int (i:Int),x])) c:=fun c hc=>by
   obtain⟨f0,fr⟩:=hf c hc
   have cl:c < s.heap.objs.size:=by
    simp only[VG,V3,or_false] at hc
    rcases hc with rfl | rfl
    ·exact el
    ·exact il
   exact⟨by rw[aR (Uq cl)];exact f0,fr⟩
  have kk:∀ c o,c ∉ [e,it]->(s.heap.push { cls:=.type "tuple",data:=.seq #[.int i s.toks,xu] }).get? c=some o->h2.get? c=some o:=fun c o hc q=>by
   have c1:c≠e:=fun h=>hc (by simp [h])
   have c2:c≠it:=fun h=>hc (by simp [h])
   refine (b2.2 c c1).trans ?_
   rcases Zw q with⟨ec,eo⟩ | q'
   ·subst ec
    subst eo
    exact t1
   ·exact kp c o c1 c2 q'
  have I2:Inv X ZY σ (upd H s.heap.objs.size (.tup [.int (i:Int),x])) { s with heap:=h2,toks:=s.toks+1 } :=
   Inv.jO (s:={ s with heap:=s.heap.push { cls:=.type "tuple",data:=.seq #[.int i s.toks,xu] },toks:=s.toks+1 }) (h':=h2) (t':=s.toks+1) (ch:=[e,it]) I1 kk ff
  refine⟨.ref s.heap.objs.size,_,I2,U,⟨_,x,I.fresh,U,fun zs hzs=>?_,U⟩,⟨⟨_,e2⟩,j1.at fun o q=>(b2.2 it (Xd hne)).trans q⟩,fun c hc=>(ff c hc).1⟩
  rw[I.pC hzs hx];exact ex
 done:=by
  intro X hP hw hK hc i ZY s σ H E I hf st hg
  subst hP hw hK
  obtain⟨xs,hx,hend⟩:=hg
  obtain⟨⟨old,he⟩,j⟩:=st
  obtain⟨its,rv,pl,_⟩:=I.list hx
  have l1:=rv.length
  refine wpAny_pyNext_enum_end (I.ok.hd hc) he j pl.isList (by simp;lia) fun h' eb=>⟨U,?_⟩
  exact I.jO (t':=s.toks) (ch:=[e,it]) (fun c o hc q=>eb c o (fun h=>hc (by simp [h])) q) hf
 self:=fun _ _ _ _ _ st h=>by
  obtain⟨⟨old,he⟩,_⟩:=st
  exact Z8 he h
def RL (K:UT)(ta:TA):TI:=fun σ H R=>ta σ H fun vs H1=>∃ a xs,vs=[.ref a]/\H1 a=some (.lst xs)/\R (Itn K a) H1
theorem Ox {X:Cx} {elts:IJ} {x1} {tpos:YM} {a:Expr} {ta:TA} {p pos:YM} (hg:Gl X "enumerate") (hm:X.mg "enumerate" = none) (ha:PA X [a] ta) (hs:U9 [a] X.env=[(false,W8 a X.env)]:=by rfl) :
  PI X (.Tuple elts x1 tpos) (.Call (.Name "enumerate" p) [a] [] pos) (RL X.K ta):=by
 intro ZY s σ H R I h
 refine Call_ (jx I hg hm boot_enumerate (V1 (thn (ha pos ZY s σ H _ I h) fun us s1 ⟨vs,H1,I1,r1,q1⟩=>?_) hs U))
 obtain⟨c,xs,e,hx,q⟩:=q1
 subst e
 obtain⟨u1,rfl,ru1⟩:=vals1 r1
 cases ru1
 obtain⟨z,its,n,rv,ho⟩:=I1.hok c _ hx
 refine call_enumerate_1 ho fun h' e1 j1 _ kp=>?_
 have en:s1.heap.objs.size+1≠s1.heap.objs.size:=Wg (Wb _)
 refine Z8 e1 ⟨_,_,_,_,H1,U,I1.kept (t':=s1.toks) kp,Hs (a:=c) en,⟨⟨_,e1⟩,j1⟩,fun b hb=>?_,q⟩
 have hle:s1.heap.objs.size<=b:=by
  simp only[VG,V3,or_false] at hb
  rcases hb with rfl | rfl
  ·exact WT _
  ·exact Ua _
 exact I1.Im hle (I1.hok.fresh hle)
theorem Ka {K:UT}{a:Addr}{xs:List V}{g:TG}{tb:TS}{D:Ends}{σ:St}{H:Hp}(Pv:Nat->St->Hp->Prop)(h0:Pv 0 σ H)(hl:∀ i σ H,i<=xs.length->Pv i σ H->SqL K H a xs)
  (hs:∀ i x p σ H,xs[i]? = some x->H p=none->Pv i σ H->g (.ref p) σ (upd H p (.tup [.int (i:Int),x])) fun σ2 H2=>tb { D with nx:=Pv (i+1),ct:=Pv (i+1),bk:=D.nx } σ2 H2) (hd:∀ σ H,Pv xs.length σ H->D.nx σ H) :
  ∃ W:Nat->Nat->St->Hp->Prop,(∃ m,W 0 m σ H)/\∀ i m σ H,W i m σ H →
   ((Itn K a).stop i H/\D.nx σ H)∨((Itn K a).go i H/\∃ N:St->Hp->Prop,(∀ σ' H',N σ' H'->∃ m',m' < m/\W (i+1) m' σ' H')/\∀ x H',(Itn K a).yld i H x H'->g x σ H' fun σ2 H2=>tb { D with nx:=N,ct:=N,bk:=D.nx } σ2 H2):=by
 refine⟨fun i m σ H=>m=xs.length - i/\i<=xs.length/\Pv i σ H,⟨xs.length,by simp,Uw _,h0⟩,?_⟩
 rintro i m σ H ⟨rfl,hi,p⟩
 have q1:=hl i σ H hi p
 by_cases hlt:i < xs.length
 ·refine .inr ⟨⟨xs,xs[i],q1,by simp [hlt]⟩,Pv (i+1),fun σ' H' p'=>⟨xs.length - (i+1),by lia,U,hlt,p'⟩,fun v H' y=>?_⟩
  obtain⟨pp,x,hp,rfl,hx,rfl⟩:=y
  exact hs i x pp σ _ (hx xs q1) hp p
 ·have e:i=xs.length:=by lia
  subst e
  exact .inl ⟨⟨xs,q1,Ua _⟩,hd σ H p⟩
section
variable {X:Cx}{k:Nat}
inductive JH (K:UT)(x:V)(y:V)(H:Hp)(Q:VK):Prop where
 | mk (a b:Addr) (ns ms:IN) (_:x = .ref a) (_:y = .ref b) (_:SqT K H a (ns.map V.int)) (_:SqT K H b (ms.map V.int)) (_:Q (.bl (!decide (ns=ms))) H)
theorem ym (hu:X.A.units < cLine):OpR X (Wl .NotEq) (JH X.K):=by
 intro ZY s σ H x y v u Q I rx ry h
 obtain⟨a,b,ns,ms,rfl,rfl,ha,hb,q⟩:=h
 cases rx
 cases ry
 obtain⟨its,r1,p1,_⟩:=I.tuple ha
 obtain⟨its2,r2,p2,_⟩:=I.tuple hb
 have i1:Vn its ns:=intsAre_of r1
 have i2:Vn its2 ms:=intsAre_of r2
 have l1:=i1.length
 have l2:=i2.length
 have r:=SeqAt.RcNeAt.tuples (e:=fun j=>ns.getD j 0 == ms.getD j 0) (show s.heap.IsTuple a its.toArray from p1) (show s.heap.IsTuple b its2.toArray from p2) hu fun j h1 h2=>by
  obtain⟨t,e1⟩:=ints_get i1 (j:=j) (by simpa using h1)
  obtain⟨t',e2⟩:=ints_get i2 (j:=j) (by simpa using h2)
  rw[Xy,Xy,e1,e2]
  exact Z0 _ _ _ _
 have e:=lZ ns ms
 have s1:its.toArray.size=ns.length:=by rw[Ue];exact l1
 have s2:its2.toArray.size=ms.length:=by rw[Ue];exact l2
 rw[s1,s2,e] at r
 exact r X.prog X.w X.xe _ ⟨.bl _,H,I,U,q⟩
end
theorem o7 {X:Cx}{tg l:Expr}{tl:TE}(K:UT)(hK:X.K=K)(hl:PE X l tl):PI X tg l (Qi K tl):=by
 subst hK
 exact cB hl
section
variable {prog:Uy}{w:Ve}{A:Vf}{E:Ix}{s:TF}
end
theorem Draws.KC {prog:Uy}{w:Ve}{A:Vf}(hh:A.handled=none)(it l:Addr)(hne:l≠it)(items:Array Value) :
  Draws prog w A it [it,l] items.size (fun i v=>items[i]? = some v) (fun i h=>h.IsTupleIter it l i/\h.IsTuple l items) where
 live:=fun _ _ st=>let ⟨o,ho,_⟩:=st.1;⟨o,ho⟩
 frame:=fun _ _ _ st hk=>by
  obtain⟨⟨o1,q1,r1⟩,⟨o2,q2,r2⟩⟩:=st
  exact⟨⟨o1,hk it (by simp) o1 q1,r1⟩,⟨o2,hk l (by simp) o2 q2,r2⟩⟩
 item:=fun i s Q E hi st hQ=>by
  refine pQ st.1 st.2 (x:=items[i]) (by simp [hi]) fun h' j' sb=>?_
  exact hQ _ h' s.toks (by simp [hi]) ⟨j',jw st.2 sb hne⟩ sb
 done:=fun s Q E st hE=>K5 hh st.1 st.2 (by simp) hE
theorem GR (l:Addr)(xs:Array Value) :
  abw (Builtin.«enumerate.__new__» ⟨[.type "enumerate",.ref l],[]⟩) (fun _ R s=>s.heap.IsTuple l xs/\R (.ok (.ret (.ref (zA s.heap l).objs.size))) { s with heap:=(zA s.heap l).push { cls:=.type "enumerate",data:=.fields #[.none,.bool false,.ref s.heap.objs.size,V2 0,.none,.none] } }) :=
 .of_wp fun prog w A R s h=>by
  obtain⟨hp,g,d,tk,os⟩:=s;obtain⟨hl,h⟩:=h
  have hsub:=sub_enumerate
  have hL:abD (aab ⟨hp,g,d,tk,os⟩) l xs:=hl
  wp_walk
  refine wpAny_stack_any fun st=>TV ?_
  split
  ·rename_i c _ _ _ _ _
   cases (c == X7 "enumerate") <;> (wp_walk using X4 hL;exact⟨_,U,h⟩)
  ·wp_walk using X4 hL
   exact⟨_,U,h⟩
theorem Cu {prog:Uy}{w:Ve}{A:Vf}{E:Ix}{s:TF}{l:Addr}{xs:Array Value}{Q:Ix}(hl:s.heap.IsTuple l xs)
  (h:∀ h',IsEnum h' (s.heap.objs.size+1) s.heap.objs.size 0 .none->h'.IsTupleIter s.heap.objs.size l 0->(∀ b o,s.heap.get? b=some o->h'.get? b=some o)->Q (.ref (s.heap.objs.size+1)) { s with heap:=h' }) :
  Ug (Up prog w) A (call (.type "enumerate") [.ref l]) Q E s:=by
 refine abp F.called_enumerate (by decide) (F.typeCall_enumerate_1 _) (F.newCall_enumerate_1 _) (fun obj=>F.args_object_init_2 obj _) F.entry_enumerate_new (GR l xs) ⟨hl,?_⟩
 have hz:(zA s.heap l).objs.size=s.heap.objs.size+1:=Vt ..
 show _/\_
 have he:((zA s.heap l).push { cls:=.type "enumerate",data:=.fields #[.none,.bool false,.ref s.heap.objs.size,V2 0,.none,.none] }).get? (zA s.heap l).objs.size=some _:=Ub _ U
 rw[hz] at he ⊢
 exact⟨⟨_,he,U⟩,h _ he ⟨_,Tz _ (Ub _ U),U,U⟩ fun b o x=>Tz _ (Tz _ x)⟩
def Itm (K : UT)(a : Addr) : It :=
  ⟨fun i H => ∃ xs x, SqT K H a xs ∧ xs[i]? = some x,
   fun i H v H' => ∃ p x, H p = none ∧ v = .ref p ∧ (∀ xs, SqT K H a xs → xs[i]? = some x) ∧ H' = upd H p (.tup [.int (i : Int), x]),
   fun i H => ∃ xs, SqT K H a xs ∧ xs.length = i⟩
def tnM (e it a:Addr)(i:Nat)(h:Vv):Prop:=(∃ old,IsEnum h e it (i:Int) old)/\h.IsTupleIter it a i
theorem CQ {P:Uy}{w:Ve}{K:UT}{elts:IJ}{x1}{pos:YM}{e it a:Addr}(hne:e≠it) :
  Turn P w K (.Tuple elts x1 pos) (Itm K a) [e,it] e (tnM e it a) where
 mem:=by simp
 obj:=fun i h st c hc=>by
  obtain⟨⟨old,he⟩,⟨o,ho,_,d⟩⟩:=st
  simp only[VG,V3,or_false] at hc
  rcases hc with rfl | rfl
  ·exact⟨_,he,fun v z=>by cases z⟩
  ·exact⟨_,ho,fun v z=>by rw[d] at z;cases z⟩
 keep:=fun i h h' st k=>by
  obtain⟨⟨old,he⟩,j⟩:=st
  exact⟨⟨old,k e (by simp) _ he⟩,j.at fun o q=>k it (by simp) o q⟩
 item:=by
  intro X hP hw hK hc i ZY s σ H E I hf st hg
  subst hP hw hK
  obtain⟨xs,x,hx,ex⟩:=hg
  obtain⟨⟨old,he⟩,j⟩:=st
  obtain⟨its,rv,pl,_⟩:=I.tuple hx
  obtain⟨xu,hxu,rx⟩:=rv.get ex
  have tl:a≠it:=fun z=>by
   obtain⟨o1,q1,c1,_⟩:=j
   obtain⟨o2,q2,c2,_⟩:=(show s.heap.IsTuple a its.toArray from pl)
   rw[z,q1] at q2
   cases q2
   rw[c1] at c2
   injection c2 with z2
   exact absurd z2 (by decide)
  have te:a≠e:=fun z=>by
   obtain⟨o2,q2,c2,_⟩:=(show s.heap.IsTuple a its.toArray from pl)
   rw[z,he] at q2
   cases q2
   injection c2 with z2
   exact absurd z2 (by decide)
  have hin:i < its.toArray.size:=by
   have:=(List.getElem?_eq_some_iff.mp hxu).1
   simpa using this
  refine wpAny_pyNext_enum_itemD (Draws.KC (A:=X.A.in1) (I.ok.hd hc) it a tl its.toArray) he ⟨j,show s.heap.IsTuple a its.toArray from pl⟩ hin hne (by simp [hne,te.symm]) fun x' h' tk hP e1 st1 t1 z1 kp=>⟨_,U,?_⟩
  obtain⟨j1,_⟩:=st1
  have ex':x'=xu:=by
   have hP':its.toArray[i]? = some x':=hP
   rw[show its.toArray[i]? = some xu by simpa using hxu] at hP'
   exact (U4 hP').symm
  subst x'
  refine wpAny_letOwnedTupleGo_enum e1 fun h2 e2 b2=>?_
  have el:e < s.heap.objs.size:=Uk he
  have il:it < s.heap.objs.size:=by obtain⟨o,q,_⟩:=j;exact Uk q
  have I1:Inv X ZY σ (upd H s.heap.objs.size (.tup [.int (i:Int),x])) { s with heap:=s.heap.push { cls:=.type "tuple",data:=.seq #[.int i tk,xu] },toks:=tk+1 } :=
   I.laid (t':=tk+1) (fun _ _ q=>Tz _ q) (Ua _) ⟨by show 2<=sizeLine;decide,[.int i tk,xu],.cons ⟨_,U⟩ (.cons rx .nil),⟨_,Ub _ U,U,_,U⟩⟩
  have ff:∀ c∈[e,it],tM X ZY (upd H s.heap.objs.size (.tup [.int (i:Int),x])) c:=fun c hc=>by
   obtain⟨f0,fr⟩:=hf c hc
   have cl:c < s.heap.objs.size:=by
    simp only[VG,V3,or_false] at hc
    rcases hc with rfl | rfl
    ·exact el
    ·exact il
   exact⟨by rw[aR (Uq cl)];exact f0,fr⟩
  have kk:∀ c o,c ∉ [e,it]->(s.heap.push { cls:=.type "tuple",data:=.seq #[.int i tk,xu] }).get? c=some o->h2.get? c=some o:=fun c o hc q=>by
   have c1:c≠e:=fun h=>hc (by simp [h])
   have c2:c≠it:=fun h=>hc (by simp [h])
   refine (b2.2 c c1).trans ?_
   rcases Zw q with⟨ec,eo⟩ | q'
   ·subst ec
    subst eo
    exact t1
   ·exact kp c o c1 c2 q'
  have I2:Inv X ZY σ (upd H s.heap.objs.size (.tup [.int (i:Int),x])) { s with heap:=h2,toks:=tk+1 } :=
   Inv.jO (s:={ s with heap:=s.heap.push { cls:=.type "tuple",data:=.seq #[.int i tk,xu] },toks:=tk+1 }) (h':=h2) (t':=tk+1) (ch:=[e,it]) I1 kk ff
  refine⟨.ref s.heap.objs.size,_,I2,U,⟨_,x,I.fresh,U,fun zs hzs=>?_,U⟩,⟨⟨_,e2⟩,j1.at fun o q=>(b2.2 it (Xd hne)).trans q⟩,fun c hc=>(ff c hc).1⟩
  rw[I.iC hzs hx];exact ex
 done:=by
  intro X hP hw hK hc i ZY s σ H E I hf st hg
  subst hP hw hK
  obtain⟨xs,hx,hend⟩:=hg
  obtain⟨⟨old,he⟩,j⟩:=st
  obtain⟨its,rv,pl,_⟩:=I.tuple hx
  have l1:=rv.length
  have tl:a≠it:=fun z=>by
   obtain⟨o1,q1,c1,_⟩:=j
   obtain⟨o2,q2,c2,_⟩:=(show s.heap.IsTuple a its.toArray from pl)
   rw[z,q1] at q2
   cases q2
   rw[c1] at c2
   injection c2 with z2
   exact absurd z2 (by decide)
  have hin:i=its.toArray.size:=by
   rw[Ue]
   lia
  refine wpAny_pyNext_enum_endD (Draws.KC (A:=X.A.in1) (I.ok.hd hc) it a tl its.toArray) he ⟨by rw[← hin];exact j,show s.heap.IsTuple a its.toArray from pl⟩ fun h' eb=>⟨U,?_⟩
  exact I.jO (t':=s.toks) (ch:=[e,it]) (fun c o hc q=>eb c o (fun h=>hc (by simp [h])) q) hf
 self:=fun _ _ _ _ _ st h=>by
  obtain⟨⟨old,he⟩,_⟩:=st
  exact Z8 he h
def Qv (K:UT)(ta:TA):TI:=fun σ H R=>ta σ H fun vs H1=>∃ a xs,vs=[.ref a]/\SqT K H1 a xs/\R (Itm K a) H1
theorem uK {X:Cx} {elts:IJ} {x1} {tpos:YM} {a:Expr} {ta:TA} {p pos:YM} (hg:Gl X "enumerate") (hm:X.mg "enumerate" = none) (ha:PA X [a] ta) (hs:U9 [a] X.env=[(false,W8 a X.env)]:=by rfl) :
  PI X (.Tuple elts x1 tpos) (.Call (.Name "enumerate" p) [a] [] pos) (Qv X.K ta):=by
 intro ZY s σ H R I h
 refine Call_ (jx I hg hm boot_enumerate (V1 (thn (ha pos ZY s σ H _ I h) fun us s1 ⟨vs,H1,I1,r1,q1⟩=>?_) hs U))
 obtain⟨c,xs,e,hx,q⟩:=q1
 subst e
 obtain⟨u1,rfl,ru1⟩:=vals1 r1
 cases ru1
 obtain⟨its,rv,tp,_⟩:=I1.tuple hx
 refine Cu (show s1.heap.IsTuple c its.toArray from tp) fun h' e1 j1 kp=>?_
 have en:s1.heap.objs.size+1≠s1.heap.objs.size:=Wg (Wb _)
 refine Z8 e1 ⟨_,_,_,_,H1,U,I1.kept (t':=s1.toks) kp,CQ (a:=c) en,⟨⟨_,e1⟩,j1⟩,fun b hb=>?_,q⟩
 have hle:s1.heap.objs.size<=b:=by
  simp only[VG,V3,or_false] at hb
  rcases hb with rfl | rfl
  ·exact WT _
  ·exact Ua _
 exact I1.Im hle (I1.hok.fresh hle)
theorem nD {K:UT}{a D:Addr}{xs:List V}{g:TG}{tt:TT}{te:TE}{H1:Hp}{Q:Hp->Prop}{σ0:St}(Pv:Nat->List V->St->Hp->Prop)(h0:Pv 0 [] σ0 (upd H1 D (.lst [])))
  (hl:∀ i zs σ H,i<=xs.length->Pv i zs σ H->SqT K H a xs/\H D=some (.lst zs))
  (hs:∀ i zs x p σ H,xs[i]? = some x->H p=none->Pv i zs σ H->g (.ref p) σ (upd H p (.tup [.int (i:Int),x])) fun σ3 H3=>tt σ3 H3 fun c H4=>if c=true then te σ3 H4 fun v H5=>H5 D=some (.lst zs)/\zs.length < sizeLine/\Pv (i+1) (zs++[v]) σ3 (upd H5 D (.lst (zs++[v]))) else Pv (i+1) zs σ3 H4)
  (hd:∀ zs σ H,Pv xs.length zs σ H->Q H):iw D σ0 (Itm K a) g tt te H1 Q:=by
 refine⟨fun i m zs σ H=>m=xs.length - i/\i<=xs.length/\Pv i zs σ H,⟨xs.length,by simp,Uw _,h0⟩,?_⟩
 rintro i m zs σ H ⟨rfl,hi,p⟩
 obtain⟨q1,qD⟩:=hl i zs σ H hi p
 refine⟨qD,?_⟩
 by_cases hlt:i < xs.length
 ·refine .inr ⟨⟨xs,xs[i],q1,by simp [hlt]⟩,Pv (i+1),fun zs' σ' H' p'=>⟨xs.length - (i+1),by lia,U,hlt,p'⟩,fun v H' y=>?_⟩
  obtain⟨pp,x,hp,rfl,hx,rfl⟩:=y
  exact hs i zs x pp σ _ (hx xs q1) hp p
 ·have e:i=xs.length:=by lia
  subst e
  exact .inl ⟨⟨xs,q1,U⟩,hd zs σ H p⟩
section
variable {X:Cx}
inductive Mi (x:V)(vs:List V)(H:Hp)(Q:VK):Prop where
 | mk (l:Addr) (xs:List V) (j:Int) (i:Nat) (y:V) (_:x = .ref l) (_:vs=[.int j,y]) (_:j=(i:Int)) (_:H l=some (.lst xs)) (_:i<=xs.length) (_:xs.length < sizeLine) (_:Q .non (upd H l (.lst (xs.take i++y::xs.drop i))))
theorem sV {xs:List V}{us:IF}(r:Vals xs us):∀ i,Vals (xs.take i) (us.take i)/\Vals (xs.drop i) (us.drop i):=by
 induction r with
 | nil=>intro i;rw[List.take_nil,List.take_nil,List.drop_nil,List.drop_nil];exact⟨.nil,.nil⟩
 | cons h r ih =>
  intro i
  cases i with
  | zero=>exact⟨.nil,.cons h r⟩
  | succ i=>exact⟨.cons h (ih i).1,(ih i).2⟩
theorem Ia:MtM X "list.insert" Mi:=by
 intro ZY s σ H x vs v us Q I rx rv h
 obtain⟨l,xs,j,i,y,rfl,rfl,ej,hH,hi,hz,q⟩:=h
 cases rx
 obtain⟨u1,u2,rfl,r1,r2⟩:=rv.two
 obtain⟨t,rfl⟩:=r1
 obtain⟨z,its,n,r,hl,e⟩:=I.K3 hH
 have hfit:¬ (!Builtin.List.listFitsIndex j)=true:=by
  have h1 : -(2 ^ 63)<=j:=by lia
  have h2:j < 2 ^ 63:=by rw[Wv] at hz;lia
  rw[fitsIndex_both h1 h2]
  exact Uc
 have hsz:its.toArray.size<=sizeLine:=by rw[Ue];lia
 refine XD F.slot_list_insert ⟨_,e,U⟩ F.entry_list_insert (F.args_list_insert_3 _ _ _) (PySem.AutoListH.list_insert_list_int_val_1 l its.toArray n j t u2 hfit hsz) ⟨e,?_⟩
 refine⟨.non,_,I.Qf (its':=its.take i++u2::its.drop i) hH e ?_ ((sV r i).1.append (.cons r2 (sV r i).2)) ?_,U,q⟩
 ·have hk:(if j < 0 then (j+((its.toArray.size:Nat):Int)).toNat else min j.toNat its.toArray.size)=i:=by
   rw[if_neg (by lia),Ue]
   lia
  show (its.toArray.extract 0 (if j < 0 then (j+((its.toArray.size:Nat):Int)).toNat else min j.toNat its.toArray.size)).push u2++its.toArray.extract (if j < 0 then (j+((its.toArray.size:Nat):Int)).toNat else min j.toNat its.toArray.size)=_
  rw[hk]
  apply Array.ext'
  simp
  exact aaA (by rw[V4];exact Ua _)
 ·rw[Uh,Um,Uj,V4]
  lia
end
theorem zF (elt t0 i0 t1 i1:Expr)(scope:Yz)(pos:YM)(it acc:Value)(env:Env) :
  compTurn (.ListComp elt [⟨t0,i0,[],0⟩,⟨t1,i1,[],0⟩] scope pos) 0 it acc env=(do
   abk i0.pos
   match ← W7 it with
   | none=>pure (.done .next)
   | some v =>
    Xl t0 it v
    ZZ t0 env v
    let x ← W8 i1 env
    abk i1.pos
    let x ← Xa i1 env x
    let _ ← runOwn (.compStart (.ListComp elt [⟨t0,i0,[],0⟩,⟨t1,i1,[],0⟩] scope pos) 1 (← abm [x] (aaT x)) acc env) env
    again (.compLoop (.ListComp elt [⟨t0,i0,[],0⟩,⟨t1,i1,[],0⟩] scope pos) 0 it acc env)):=by rfl
theorem yU (elt t0 i0 t1 i1:Expr)(scope:Yz)(pos:YM)(it acc:Value)(env:Env) :
  compTurn (.ListComp elt [⟨t0,i0,[],0⟩,⟨t1,i1,[],0⟩] scope pos) 1 it acc env=(abk i1.pos >>= fun _=>W7 it >>= fun r=>match r with
   | none=>pure (.done .next)
   | some v=>Xl t1 it v >>= fun _=>ZZ t1 env v >>= fun _ =>
    (W8 elt env >>= fun x=>call (.builtin "list.append") [acc,x] >>= fun _=>pure ()) >>= fun _ =>
     again (.compLoop (.ListComp elt [⟨t0,i0,[],0⟩,⟨t1,i1,[],0⟩] scope pos) 1 it acc env)):=by rfl
section
variable {prog:Uy}{w:Ve}{A:Vf}{R:abb->TF->Prop}{s:TF}{elt t0 i0 t1 i1:Expr}{scope:Yz}{pos:YM}{it acc:Value}{env:Env}
theorem xf (h0:WL (Up prog w) A (.compLoop (.ListComp elt [⟨t0,i0,[],0⟩,⟨t1,i1,[],0⟩] scope pos) 1 it acc env) R s)
  (h:Ug (Up prog w) A (aaT it) (fun it' s'=>WL (Up prog w) A (.compLoop (.ListComp elt [⟨t0,i0,[],0⟩,⟨t1,i1,[],0⟩] scope pos) 1 it' acc env) R s') (notedBy (Up prog w) A env fun x s'=>R (.error x) s') s) :
  WL (Up prog w) A (.compStart (.ListComp elt [⟨t0,i0,[],0⟩,⟨t1,i1,[],0⟩] scope pos) 1 it acc env) R s:=by
 refine ab3 ?_
 show Ug _ _ ((compStart (.ListComp elt [⟨t0,i0,[],0⟩,⟨t1,i1,[],0⟩] scope pos) 1 it acc env).onRaise (fun x=>do noteFrame x env;abk theWindowsPlace)) _ _ s
 refine wpAny_notedAt ?_
 unfold compStart
 show Ug _ _ (ask >>= _) _ _ s
 refine Tv (XM (wpAny_ite ?_))
 split
 ·first
   | exact Tv (TV (TV (And.intro rfl h0)))
   | exact TV (And.intro rfl h0)
 ·first
   | exact Tv (Xg (Tv (XC (Tv (VB h (fun it' s' h'=>TV (And.intro rfl h')) fun _ _ x=>x)))))
   | (refine Tv (Xg ?_);show Ug _ _ (abk i1.pos >>= _) _ _ s;exact Tv (XC (Tv (VB h (fun it' s' h'=>TV (And.intro rfl h')) fun _ _ x=>x))))
abbrev noX:Ix:=fun _ _=>False
theorem ik {E:Ix}(x:Value)(s':TF)(z:noX x s'):E x s':=z.elim
theorem vX (hs1:∀ x,Xa i1 env x=pure x)(I:Nat->TF->Prop)
  (turn:∀ n s,I n s->Ug (Up prog w) A (W7 it) (fun r s₁=>match r with
   | none=>R (.ok .next) s₁
   | some v=>Ug (Up prog w) A (Xl t0 it v) (fun _ s₀=>Ug (Up prog w) A (ZZ t0 env v) (fun _ s₂=>Ug (Up prog w) A (W8 i1 env) (fun x s₃=>Ug (Up prog w) A (aaT x) (fun it1 s₄ =>
     WL (Up prog w) A (.compStart (.ListComp elt [⟨t0,i0,[],0⟩,⟨t1,i1,[],0⟩] scope pos) 1 it1 acc env) (fun r s'=>match r with | .ok _=>∃ m,m < n/\I m s' | .error _=>False) s₄) noX s₃) noX s₂) noX s₀) noX s₁) noX s)
  (n:Nat) (h:I n s):WL (Up prog w) A (.compLoop (.ListComp elt [⟨t0,i0,[],0⟩,⟨t1,i1,[],0⟩] scope pos) 0 it acc env) R s:=by
 refine codeAny_loop U I (fun n s hI=>?_) n h
 refine (show Ug (Up prog w) A ((compTurn (.ListComp elt [⟨t0,i0,[],0⟩,⟨t1,i1,[],0⟩] scope pos) 0 it acc env).onRaise (fun x=>do noteFrame x env;ab1 x)) _ _ s from wpAny_noted ?_)
 rw[zF]
 refine Tv (XC (Tv (VB (turn n s hI) (fun r s₁ h₁=>?_) ik)))
 cases r with
 | none=>exact TV h₁
 | some v =>
  refine Tv (VB h₁ (fun _ s₀ h₀=>Tv (VB h₀ (fun _ s₂ h₂=>Tv (VB h₂ (fun x s₃ h₃=>Tv (XC (Tv (W6 (hs1 x) (Tv (V5 (VB h₃ (fun it1 s₄ h₄=>?_) ik))))))) ik)) ik)) ik)
  refine Tv (wpAny_runOwn (ZP h₄ fun r s' hr=>?_))
  cases r with
  | ok f=>exact TV ⟨U,hr⟩
  | error e=>exact hr.elim
theorem xm (I:Nat->TF->Prop)
  (turn:∀ n s,I n s->Ug (Up prog w) A (W7 it) (fun r s₁=>match r with
   | none=>R (.ok .next) s₁
   | some v=>Ug (Up prog w) A (Xl t1 it v) (fun _ s₀=>Ug (Up prog w) A (ZZ t1 env v) (fun _ s₂=>Ug (Up prog w) A (W8 elt env) (fun x s₄=>Ug (Up prog w) A (call (.builtin "list.append") [acc,x]) (fun _ s₅=>∃ m,m < n/\I m s₅) noX s₄) noX s₂) noX s₀) noX s₁) noX s)
  (n:Nat) (h:I n s):WL (Up prog w) A (.compLoop (.ListComp elt [⟨t0,i0,[],0⟩,⟨t1,i1,[],0⟩] scope pos) 1 it acc env) R s:=by
 refine codeAny_loop U I (fun n s hI=>?_) n h
 refine (show Ug (Up prog w) A ((compTurn (.ListComp elt [⟨t0,i0,[],0⟩,⟨t1,i1,[],0⟩] scope pos) 1 it acc env).onRaise (fun x=>do noteFrame x env;ab1 x)) _ _ s from wpAny_noted ?_)
 rw[yU]
 refine Tv (XC (Tv (VB (turn n s hI) (fun r s₁ h₁=>?_) ik)))
 cases r with
 | none=>exact TV h₁
 | some v =>
  refine Tv (VB h₁ (fun _ s₀ h₀=>Tv (VB h₀ (fun _ s₂ h₂=>Tv (Tv (VB h₂ (fun x s₄ h₄=>Tv (VB h₄ (fun _ s₅ h₅=>TV (TV ⟨U,h₅⟩)) ik)) ik))) ik)) ik)
end
def uX (D:Addr)(σ0:St)(J:It)(g:TG)(wi1:TI)(g1:TG)(te:TE)(H1:Hp)(Q:Hp->Prop):Prop :=
 ∃ W:Nat->Nat->List V->St->Hp->Prop,(∃ m,W 0 m [] σ0 (upd H1 D (.lst []))) ∧
  ∀ i m ys σ' H',W i m ys σ' H'->((J.stop i H'/\Q H')∨(J.go i H'/\∃ N:List V->St->Hp->Prop,(∀ zs σ2 H2,N zs σ2 H2->∃ m',m' < m/\W (i+1) m' zs σ2 H2) ∧
   ∀ x H2,J.yld i H' x H2->g x σ' H2 fun σ3 H3=>wi1 σ3 H3 fun J1 H4 =>
    ∃ Y:Nat->Nat->List V->St->Hp->Prop,(∃ m,Y 0 m ys σ3 H4) ∧
     ∀ j m zs σ5 H5,Y j m zs σ5 H5->((J1.stop j H5/\N zs σ5 H5)∨(J1.go j H5/\∃ M:List V->St->Hp->Prop,(∀ zs σ6 H6,M zs σ6 H6->∃ m',m' < m/\Y (j+1) m' zs σ6 H6) ∧
      ∀ y H6,J1.yld j H5 y H6->g1 y σ5 H6 fun σ7 H7=>te σ7 H7 fun v H8=>H8 D=some (.lst zs)/\zs.length < sizeLine/\M (zs++[v]) σ7 (upd H8 D (.lst (zs++[v])))))))
section
variable {X:Cx}{elt t0 i0 t1 i1:Expr}{scope:Yz}{pos:YM}{L F:IR}{cap:IP}{wi wi1:TI}{g g1:TG}{te:TE}
theorem GP {cl:Iq}{ZY:Ic}{σ:St}{s2:TF}{H2:Hp}{it:Addr}{fp:II}{tn:Nat->Vv->Prop}{J:It}{use:Option (Value->Sem Unit)}{QQ:Ix}{Z:Hp->Prop}{E:Ix}
  (hc:X.calm=true) (ok:pW X scope F cap)
  (sub:∀ n c,cl.lookup n=some c->X.env.cells.lookup n=some c) (all:∀ y∈scope.names,y.2 = .free->∃ c,cl.lookup y.1=some c)
  (hg:∀ cl C s H fp,PG (bB X scope cl C (L++F) s H fp) t0 g) (hi1:∀ cl C s H fp,PI (bB X scope cl C (L++F) s H fp) t1 i1 wi1) (hg1:∀ cl C s H fp,PG (bB X scope cl C (L++F) s H fp) t1 g1) (he:∀ cl C s H fp,PE (bB X scope cl C (L++F) s H fp) elt te)
  (hs1:∀ (env:Env) x,Xa i1 env x=pure x)
  (I2:Inv X ZY σ H2 s2) (T:Turn X.prog X.w X.K t0 J fp it tn) (st2:tn 0 s2.heap) (f2:∀ b∈fp,tM X ZY H2 b)
  (q2:uX s2.heap.objs.size (Li L.length cap σ) J g wi1 g1 te H2 Z)
  (fin:∀ (C:Addr) (s':TF) (H':Hp),Z H'->Inv X ZY σ H' s'->(∃ m,s'.heap.Ns C m)->H' C=none->C≠X.env.locals->X.s₀.heap.objs.size<=C->(∀ x c,X.env.cells.lookup x=some c->c≠C)->(∀ p∈X.pn++ZY,p.1≠C) →
   aar (Up X.prog X.w) X.A E use QQ (.ref s2.heap.objs.size) C (.ok .next) s') :
  Ug (Up X.prog X.w) X.A (newList []) (fun acc s₃=>Ug (Up X.prog X.w) X.A (newFunctionEnv scope X.env.globals cl [] X.env.qual none .none (some X.env)) (fun cenv s₄ =>
   WL (Up X.prog X.w) X.A (.compStart (.ListComp elt [⟨t0,i0,[],0⟩,⟨t1,i1,[],0⟩] scope pos) 0 (.ref it) acc { cenv with scope:=relabel scope X.env }) (aar (Up X.prog X.w) X.A E use QQ acc cenv.locals) s₄) E s₃) E s2:=by
 have hD:H2 s2.heap.objs.size=none:=I2.fresh
 refine Vc (wpAny_newFunctionEnv ok.cell (by intro y hy;simp at hy) (fun h₁ hns₁ hsb₁=>?_) ok.kind)
 dsimp only at hns₁ hsb₁ ⊢
 have I3:Inv X ZY σ (upd H2 s2.heap.objs.size (.lst [])) { s2 with heap:=s2.heap.push { cls:=.type "list",data:=.seq ([]:IF).toArray } }:=I2.QW (t':=s2.toks) (ys:=[]) (its:=[]) .nil (Uw _)
 have blt:∀ b∈fp,b < s2.heap.objs.size:=fun b hb=>let ⟨_,e,_⟩:=T.obj 0 _ st2 b hb;Uk e
 have szC:(s2.heap.push { cls:=.type "list",data:=.seq ([]:IF).toArray }).objs.size=s2.heap.objs.size+1:=Vt _ _
 generalize hs3:({ s2 with heap:=s2.heap.push { cls:=.type "list",data:=.seq ([]:IF).toArray } }:TF)=s3 at I3
 have es3:s3.heap=s2.heap.push { cls:=.type "list",data:=.seq ([]:IF).toArray }:=by rw[← hs3]
 have eos:s3.os=s2.os:=by rw[← hs3]
 have fok:∀ b∈fp,tM X ZY (upd H2 s2.heap.objs.size (.lst [])) b/\b < s3.heap.objs.size:=fun b hb=>by
  obtain⟨f0,fr⟩:=f2 b hb
  refine⟨⟨by rw[aR (Uq (blt b hb))];exact f0,fr⟩,?_⟩
  rw[es3,szC]
  exact Vi (blt b hb)
 have hkp:∀ b o,s3.heap.get? b=some o->h₁.get? b=some o:=fun b o e=>by
  have e':b < s3.heap.objs.size:=Uk e
  rw[es3] at e e'
  exact (hsb₁.2 b (Uq e')).trans (Tz _ e)
 have hns:h₁.Ns s3.heap.objs.size fun _=>none:=by
  rw[es3]
  exact hns₁
 have I4:∀ tk,Inv (bB X scope cl s3.heap.objs.size (L++F) s3 (upd H2 s2.heap.objs.size (.lst [])) fp) [] (Li L.length cap σ) (upd H2 s2.heap.objs.size (.lst [])) { s3 with heap:=h₁,toks:=tk }:=fun tk =>
  tD (L:=L) ok I3 fok sub all hns hkp
 have stat:∀ {H':Hp},(∀ b∈fp,H' b=none)->∀ b∈fp,tM (bB X scope cl s3.heap.objs.size (L++F) s3 (upd H2 s2.heap.objs.size (.lst [])) fp) [] H' b:=fun {H'} hn b hb=>by
  obtain⟨⟨_,g1,g2,g3,g4,g5⟩,g6⟩:=fok b hb
  exact⟨hn b hb,Uq g6,zB I3 g1 g2,.inl hb,fun x c e=>g4 x c (sub x c e),fun p hp=>absurd (show p∈([]:Ic) from hp) (by simp)⟩
 have loop:∀ tk,WL (Up X.prog X.w) X.A (.compLoop (.ListComp elt [⟨t0,i0,[],0⟩,⟨t1,i1,[],0⟩] scope pos) 0 (.ref it) (.ref s2.heap.objs.size) (abn scope cl s3.heap.objs.size X.env))
   (aar (Up X.prog X.w) X.A E use QQ (.ref s2.heap.objs.size) s3.heap.objs.size) { s3 with heap:=h₁,toks:=tk }:=fun tk=>by
  obtain⟨W,⟨m0,w0⟩,turn⟩:=q2
  have st3:tn 0 h₁:=T.keep 0 _ _ st2 fun b hb o e=>hkp b o (by rw[es3];exact Tz _ e)
  refine vX (hs1 _) (fun n s'=>∃ i ys σ' H',Inv (bB X scope cl s3.heap.objs.size (L++F) s3 (upd H2 s2.heap.objs.size (.lst [])) fp) [] σ' H' s'/\tn i s'.heap/\(∀ b∈fp,H' b=none)/\W i n ys σ' H') ?_ m0
   ⟨0,[],_,_,I4 tk,st3,fun b hb=>(fok b hb).1.1,w0⟩
  rintro n s5 ⟨i,ys,σ5,H5,I5,st5,fr5,w5⟩
  rcases turn i n ys σ5 H5 w5 with⟨stop,qz⟩ | ⟨go,N,hN,step⟩
  ·refine thn (T.done (bB X scope cl s3.heap.objs.size (L++F) s3 (upd H2 s2.heap.objs.size (.lst [])) fp) U U U hc i [] s5 σ5 H5 _ I5 (stat fr5) st5 stop) fun r s6 ⟨hr,I6⟩=>?_
   subst hr
   have un:Un (frs X.stack) fp H2 H5 s2.heap s6.heap:=by
    have u1:Un (frs X.stack) fp H2 (upd H2 s2.heap.objs.size (.lst [])) s2.heap s3.heap:=by
     rw[es3]
     exact Un.laid (fun _ _ q=>Tz _ q) (Ua _) hD
    exact u1.trans I6.base
   have J1:Inv X ZY σ H5 s6:=I2.call' (I6.os.trans eos) un I6.hok I6.bare fun b hb=>by
    obtain⟨_,g1,_,g3,g4,g5⟩:=f2 b hb
    exact⟨g3,g1,g4,g5⟩
   have hC:s2.heap.objs.size<=s3.heap.objs.size:=by rw[es3,szC];exact WT _
   obtain⟨m,hm,_⟩:=I6.loc
   refine fin s3.heap.objs.size s6 H5 qz J1 ⟨m,hm⟩ I6.free (Wg (Us I2.lt hC)) (Vd I2.sz hC) (fun x c e z=>?_) (fun p hp z=>?_)
   ·obtain⟨v,q⟩:=I2.cell x c e
    exact absurd (Us q.lt (by rw[z];exact hC)) (Wq _)
   ·exact absurd (Us (Uk (I2.pin p hp).1) (by rw[z];exact hC)) (Wq _)
  ·refine thn (T.item (bB X scope cl s3.heap.objs.size (L++F) s3 (upd H2 s2.heap.objs.size (.lst [])) fp) U U U hc i [] s5 σ5 H5 _ I5 (stat fr5) st5 go) fun r s6 ⟨u,hr,h6⟩=>?_
   subst hr
   refine thn h6 fun _ s7 ⟨x,H7,I7,r7,y7,st7,fr7⟩=>?_
   have I7':=I7.pinned (stat fr7) (T.obj _ _ st7)
   refine thn (hg _ _ _ _ _ _ s7 σ5 H7 x u _ I7' r7 (step x H7 y7)) fun _ s8 ⟨σ8,H8,I8,q8⟩=>?_
   have again:∀ {σ9:St} {H9:Hp} {s9:TF} {zs:List V},Inv (bB X scope cl s3.heap.objs.size (L++F) s3 (upd H2 s2.heap.objs.size (.lst [])) fp) ([]++nZ fp s7.heap) σ9 H9 s9->N zs σ9 H9 →
     ∃ m,m < n/\∃ i ys σ' H',Inv (bB X scope cl s3.heap.objs.size (L++F) s3 (upd H2 s2.heap.objs.size (.lst [])) fp) [] σ' H' s9/\tn i s9.heap/\(∀ b∈fp,H' b=none)/\W i m ys σ' H':=fun {σ9 H9 s9 zs} I9 n9=>by
    obtain⟨m',hm,w9⟩:=hN zs σ9 H9 n9
    refine⟨m',hm,i+1,zs,σ9,H9,I9.j7,T.keep _ _ _ st7 fun b hb o e=>(I9.pin (b,o) (UW _ (UW _ (dD hb e)))).1,fun b hb=>?_,w9⟩
    obtain⟨o,e,d⟩:=T.obj _ _ st7 b hb
    exact (I9.pin (b,o) (UW _ (UW _ (dD hb e)))).2.1
   refine thn (hi1 _ _ _ _ _ _ s8 σ8 H8 _ I8 q8) fun v1 s9 h9=>thn h9 fun itv s10 h10=>?_
   obtain⟨it1,fp1,tn1,J1,H10,e,I10,T1,st10,f10,Y,⟨m1,y0⟩,turn1⟩:=h10
   subst e
   have stat1:∀ {H':Hp},(∀ b∈fp1,H' b=none)->∀ b∈fp1,tM (bB X scope cl s3.heap.objs.size (L++F) s3 (upd H2 s2.heap.objs.size (.lst [])) fp) ([]++nZ fp s7.heap) H' b:=fun hn b hb=>⟨hn b hb,(f10 b hb).2⟩
   have loop1:WL (Up X.prog X.w) X.A (.compLoop (.ListComp elt [⟨t0,i0,[],0⟩,⟨t1,i1,[],0⟩] scope pos) 1 (.ref it1) (.ref s2.heap.objs.size) (abn scope cl s3.heap.objs.size X.env))
     (fun r s'=>match r with | .ok _=>∃ m,m < n/\∃ i ys σ' H',Inv (bB X scope cl s3.heap.objs.size (L++F) s3 (upd H2 s2.heap.objs.size (.lst [])) fp) [] σ' H' s'/\tn i s'.heap/\(∀ b∈fp,H' b=none)/\W i m ys σ' H' | .error _=>False) s10:=by
    refine xm (fun k s'=>∃ j zs σ' H',Inv (bB X scope cl s3.heap.objs.size (L++F) s3 (upd H2 s2.heap.objs.size (.lst [])) fp) ([]++nZ fp s7.heap) σ' H' s'/\tn1 j s'.heap/\(∀ b∈fp1,H' b=none)/\Y j k zs σ' H') ?_ m1
     ⟨0,ys,_,_,I10,st10,fun b hb=>(f10 b hb).1,y0⟩
    rintro k s11 ⟨j,zs,σ11,H11,I11,st11,fr11,w11⟩
    rcases turn1 j k zs σ11 H11 w11 with⟨stop1,n1⟩ | ⟨go1,M,hM,step1⟩
    ·refine thn (T1.done (bB X scope cl s3.heap.objs.size (L++F) s3 (upd H2 s2.heap.objs.size (.lst [])) fp) U U U hc j _ s11 σ11 H11 _ I11 (stat1 fr11) st11 stop1) fun r s12 ⟨hr,I12⟩=>?_
     subst hr
     exact again I12 n1
    ·refine thn (T1.item (bB X scope cl s3.heap.objs.size (L++F) s3 (upd H2 s2.heap.objs.size (.lst [])) fp) U U U hc j _ s11 σ11 H11 _ I11 (stat1 fr11) st11 go1) fun r s12 ⟨u1,hr,h12⟩=>?_
     subst hr
     refine thn h12 fun _ s13 ⟨x1,H13,I13,r13,y13,st13,fr13⟩=>?_
     have I13':=I13.pinned (stat1 fr13) (T1.obj _ _ st13)
     refine thn (hg1 _ _ _ _ _ _ s13 σ11 H13 x1 u1 _ I13' r13 (step1 x1 H13 y13)) fun _ s14 ⟨σ14,H14,I14,q14⟩=>?_
     refine thn (he _ _ _ _ _ _ s14 σ14 H14 _ I14 q14) fun y s15 ⟨yv,H15,I15,r15,e15,z15,n15⟩=>?_
     refine thn (bI _ s15 σ14 H15 (.ref s2.heap.objs.size) [yv] (.ref s2.heap.objs.size) [y] (fun _ H'=>M (zs++[yv]) σ14 H') I15 U (.cons r15 .nil) ⟨_,zs,yv,U,U,e15,z15,n15⟩) fun _ s16 ⟨_,H16,I16,_,n16⟩=>?_
     obtain⟨m',hm,w16⟩:=hM _ _ _ n16
     refine⟨m',hm,j+1,_,σ14,H16,I16.j7,T1.keep _ _ _ st13 fun b hb o e=>(I16.pin (b,o) (UW _ (UW _ (dD hb e)))).1,fun b hb=>?_,w16⟩
     obtain⟨o,e,d⟩:=T1.obj _ _ st13 b hb
     exact (I16.pin (b,o) (UW _ (UW _ (dD hb e)))).2.1
   exact xf loop1 (T1.self _ 0 _ _ _ st10 loop1)
 have eC:(s2.heap.push { cls:=.type "list",data:=.seq ([]:IF).toArray }).objs.size=s3.heap.objs.size:=by rw[es3]
 have goal:∀ tk,WL (Up X.prog X.w) X.A (.compStart (.ListComp elt [⟨t0,i0,[],0⟩,⟨t1,i1,[],0⟩] scope pos) 0 (.ref it) (.ref s2.heap.objs.size) (abn scope cl s3.heap.objs.size X.env))
   (aar (Up X.prog X.w) X.A E use QQ (.ref s2.heap.objs.size) s3.heap.objs.size) { s3 with heap:=h₁,toks:=tk }:=fun tk =>
  codeAny_compStart_list (loop tk) (T.self _ 0 _ _ _ (T.keep 0 _ _ st2 fun b hb o e=>hkp b o (by rw[es3];exact Tz _ e)) (loop tk))
 have g0:=goal (s2.toks+([]:HZ).length)
 subst hs3
 exact g0
end
section
variable {X:Cx}
end
def In2 (D:Addr)(J1:It)(g1:TG)(te:TE)(N:List V->St->Hp->Prop)(ys:List V)(σ3:St)(H4:Hp):Prop :=
 ∃ Y:Nat->Nat->List V->St->Hp->Prop,(∃ m,Y 0 m ys σ3 H4) ∧
  ∀ j m zs σ5 H5,Y j m zs σ5 H5->((J1.stop j H5/\N zs σ5 H5)∨(J1.go j H5/\∃ M:List V->St->Hp->Prop,(∀ zs σ6 H6,M zs σ6 H6->∃ m',m' < m/\Y (j+1) m' zs σ6 H6) ∧
   ∀ y H6,J1.yld j H5 y H6->g1 y σ5 H6 fun σ7 H7=>te σ7 H7 fun v H8=>H8 D=some (.lst zs)/\zs.length < sizeLine/\M (zs++[v]) σ7 (upd H8 D (.lst (zs++[v])))))
theorem JN {K:UT}{b D:Addr}{ws:List V}{g1:TG}{te:TE}{N:List V->St->Hp->Prop}{ys:List V}{σ3:St}{H4:Hp}(Pw:Nat->List V->St->Hp->Prop)(h0:Pw 0 ys σ3 H4)
  (hl:∀ j zs σ H,j<=ws.length->Pw j zs σ H->SqL K H b ws)
  (hs:∀ j zs y σ H,ws[j]? = some y->Pw j zs σ H->g1 y σ H fun σ7 H7=>te σ7 H7 fun v H8=>H8 D=some (.lst zs)/\zs.length < sizeLine/\Pw (j+1) (zs++[v]) σ7 (upd H8 D (.lst (zs++[v]))))
  (hd:∀ zs σ H,Pw ws.length zs σ H->N zs σ H):In2 D (Itl K b) g1 te N ys σ3 H4:=by
 refine⟨fun j m zs σ H=>m=ws.length - j/\j<=ws.length/\Pw j zs σ H,⟨ws.length,by simp,Uw _,h0⟩,?_⟩
 rintro j m zs σ H ⟨rfl,hj,p⟩
 have q:=hl j zs σ H hj p
 by_cases hlt:j < ws.length
 ·refine .inr ⟨⟨ws,ws[j],q,by simp [hlt]⟩,Pw (j+1),fun zs' σ' H' p'=>⟨ws.length - (j+1),by lia,U,hlt,p'⟩,fun y H' z=>?_⟩
  obtain⟨e,z⟩:=z
  subst e
  exact hs j zs y σ _ (z ws q) p
 ·have e:j=ws.length:=by lia
  subst e
  exact .inl ⟨⟨ws,q,Ua _⟩,hd zs σ H p⟩
section
variable {prog:Uy}{w:Ve}{A:Vf}{E:Ix}{s:TF}
end
section
variable {X:Cx}
end
section
variable {X:Cx}{elt t0 i0 t1 i1:Expr}{scope:Yz}{pos:YM}{L F:IR}{cap:IP}{wi wi1:TI}{g g1:TG}{te:TE}
def MP (n:Nat)(cap:IP)(wi:TI)(g:TG)(wi1:TI)(g1:TG)(te:TE)(j:Nat):TS:=fun D σ H=>wi σ H fun J H1=>∀ d,H1 d=none->uX d (Li n cap σ) J g wi1 g1 te H1 fun H2=>D.nx (σ.set j (some (.ref d))) H2
theorem Jp {j:Nat}{y:VM}{py spos:YM}(hN:X.N.Nodup)(hj:X.N[j]? = some y)(hy:Loc X.env.scope y)(hc:X.calm=true)(ok:pW X scope F cap)(hi:PI X t0 i0 wi)
  (hg:∀ cl C s H fp,PG (bB X scope cl C (L++F) s H fp) t0 g) (hi1:∀ cl C s H fp,PI (bB X scope cl C (L++F) s H fp) t1 i1 wi1) (hg1:∀ cl C s H fp,PG (bB X scope cl C (L++F) s H fp) t1 g1) (he:∀ cl C s H fp,PE (bB X scope cl C (L++F) s H fp) elt te)
  (hsw:aap (.ListComp elt [⟨t0,i0,[],0⟩,⟨t1,i1,[],0⟩] scope pos) (some (.Name y py)) spos.line X.env=pure true:=by rfl)
  (hs:∀ x,Xa i0 X.env x=pure x:=by intro _;rfl) (hs1:∀ (env:Env) x,Xa i1 env x=pure x:=by intro _ _;rfl) (hf:X.fn y=true∨X.env.scope.names.lookup y=some .local:=by first | exact .inl rfl | exact .inr rfl | assumption) :
  PS X (.Assign [.Name y py] (.ListComp elt [⟨t0,i0,[],0⟩,⟨t1,i1,[],0⟩] scope pos) spos) (MP L.length cap wi g wi1 g1 te j):=by
 intro ZY s σ H D I h
 obtain⟨cl,e1,e2,e3⟩:=yw (scope:=scope) (env:=X.env) (fun y hy hf=>I.ok.has _ (ok.fr y hy hf))
 rw[exec_Assign_Name_used _ _ _ _ hsw]
 refine Tv (XC (Tv ?_))
 show Ug (Up X.prog X.w) X.A (do let _ ← comprehension (.ListComp elt [⟨t0,i0,[],0⟩,⟨t1,i1,[],0⟩] scope pos) scope X.env _ (newList []) false (W8 i0 X.env) (some (ZZ (.Name y py) X.env))) _ _ s
 refine Tv (VB (aah (use:=some (ZZ (.Name y py) X.env)) (Q:=fun _ s'=>SP X ZY D .next s') U hs e1 ok.kind ok.nms
  (thn (hi ZY s σ H _ I h) fun v s1 h1=>thn h1 fun itv s2 h2=>?_)) (fun _ s' hq=>TV (TV hq)) fun _ _ e=>e)
 obtain⟨it,fp,tn,J,H2,e,I2,T,st2,f2,q2⟩:=h2
 subst e
 refine GP (Z:=fun H'=>D.nx (σ.set j (some (.ref s2.heap.objs.size))) H') hc ok e2 e3 hg hi1 hg1 he hs1 I2 T st2 f2 (q2 _ I2.fresh) fun C s' H' z J m hCf hCl hCs hCc hCp=>?_
 obtain⟨m,hm⟩:=m
 refine abi (qm J hN hj hy (v:=.ref s2.heap.objs.size) U (fun s5 I5 hs5=>?_) hf)
 obtain⟨a,sb,ha⟩:=hs5
 have hne:C≠a:=by
  rcases ha with rfl | ha
  ·exact hCl
  ·exact Xd (hCc y a ha)
 exact⟨m,hm.sameBut sb hne,fun h' hs'=>⟨_,H',I5.turned (t':=s5.toks) (fun b o hb e=>(hs'.2 b hb).trans e) hCf hCl (.inr hCs) hCc hCp,z⟩⟩
end
section
variable {X:Cx}{tg:Expr}
end
section
variable {X:Cx}{elt tg iter:Expr}{ifs:IJ}{scope:Yz}{pos:YM}{x0:VM}{L F:IR}{cap:IP}{wi:TI}{g:TG}{tt:TT}{te:TE}
end
section
variable {X:Cx}
end
section
variable {prog:Uy}{w:Ve}{A:Vf}{R:abb->TF->Prop}{E:Ix}{s:TF}
end
section
variable {X:Cx}{k:Nat}
end
end L2
namespace L2
open PySem PySem.Spec PyProof.Rows PySem.W
section
variable {prog:Uy}{w:Ve}{A:Vf}{E:Ix}{κ:Xv}{it:Array Keyed}{s:TF}
end
theorem zG:∀ (l:HL) (us:IF),Vals (l.map fun p=>V.ref p.1) us->us=l.map fun p=>U5 p.1
 | [],_,z=>by cases z;rfl
 | p::l,_,z=>by
  cases z with
  | cons e t =>
   cases e
   rw[zG l _ t]
   rfl
section
variable {X:Cx}
end
end L2
namespace L2
open PySem PySem.Spec PyProof.Rows
section
variable {X:Cx}{k:Nat}
end
section
variable {prog:Uy}{w:Ve}{A:Vf}{R:abb->TF->Prop}{E:Ix}{s:TF}
end
section
variable {X:Cx}
end
end L2
namespace L2
open PySem PySem.W PyProof.Rows
structure Srt where
 a:IP
 pend:Array (Nat × Nat × Nat)
 gal:Nat
def Srt.ok (_:Srt):Bool:=true
abbrev oX:=StateT Srt Option
def im (it:Array Keyed)(l:IP):Array Keyed:=(l.map (Xu it)).toArray
def Srt.st (κ:Xv)(it:Array Keyed)(ps:Srt):WX:=Ys κ (im it ps.a) ps.pend ps.gal none
section
variable (prog:Uy)(w:Ve)(A:Vf)(E:Ix)(κ:Xv)(it:Array Keyed)(s:TF)
def Sim {α α':Type}(f:α'->α)(m:StateT WX Sem α)(m':oX α'):Prop:=∀ (ps:Srt) (a:α') (ps':Srt),m'.run ps=some (a,ps')->∀ Q:α->WX->TF->Prop,Q (f a) (ps'.st κ it) s->kasC (Up prog w) A E m Q (ps.st κ it) s
end
section
variable {prog:Uy}{w:Ve}{A:Vf}{E:Ix}{κ:Xv}{it:Array Keyed}{s:TF}
theorem aM {α α' β β':Type}{f:α'->α}{g:β'->β}{m:StateT WX Sem α}{m':oX α'}{k:α->StateT WX Sem β}{k':α'->oX β'}(h1:Sim prog w A E κ it s f m m')(h2:∀ a,Sim prog w A E κ it s g (k (f a)) (k' a)):Sim prog w A E κ it s g (m >>= k) (m' >>= k'):=by
 intro ps b ps' e Q q
 rw[StateT.run_bind] at e
 cases e1:m'.run ps with
 | none=>rw[e1] at e;cases e
 | some r =>
  obtain⟨a,ps1⟩:=r
  rw[e1] at e
  exact kasC_bind (h1 ps a ps1 e1 _ (h2 a ps1 b ps' e Q q))
theorem aJ {α α':Type}{f:α'->α}{a:α'}{b:α}(h:b=f a):Sim prog w A E κ it s f (pure b) (pure a):=by
 intro ps c ps' e Q q
 subst h
 rw[aaF] at e
 cases e
 exact kasC_pure q
theorem jH:Sim prog w A E κ it s (Srt.st κ it) (get:StateT WX Sem WX) (get:oX Srt):=by
 intro ps c ps' e Q q
 rw[StateT.run_get] at e
 cases e
 exact kasC_get q
theorem uy {u:WX->WX}{u':Srt->Srt}(h:∀ ps,u (ps.st κ it)=(u' ps).st κ it):Sim prog w A E κ it s id (modify u:StateT WX Sem PUnit) (modify u':oX PUnit):=by
 intro ps c ps' e Q q
 rw[StateT.run_modify] at e
 cases e
 refine kasC_modify ?_
 rw[h]
 exact q
def Rx (c:Srt->Bool)(u:Srt->Srt):oX PUnit:=fun ps=>if c ps=true then some ((),u ps) else none
theorem Bv {c:Srt->Bool}{u:WX->WX}{u':Srt->Srt}(h:∀ ps,c ps=true->u (ps.st κ it)=(u' ps).st κ it):Sim prog w A E κ it s id (modify u:StateT WX Sem PUnit) (Rx c u'):=by
 intro ps x ps' e Q q
 have e':(if c ps=true then some ((),u' ps) else none)=some (x,ps'):=e
 by_cases hc:c ps=true
 ·rw[if_pos hc] at e'
  cases e'
  refine kasC_modify ?_
  rw[h ps hc]
  exact q
 ·rw[if_neg hc] at e'
  cases e'
theorem Nq {v:WX}{v':Srt}(h:v=v'.st κ it):Sim prog w A E κ it s id (set v:StateT WX Sem PUnit) (set v':oX PUnit):=by
 intro ps c ps' e Q q
 rw[StateT.run_set] at e
 cases e
 unfold kasC
 rw[StateT.run_set,h]
 exact TV q
theorem JM {r:String}:Sim prog w A E κ it s id (liftM (rule r):StateT WX Sem Unit) (pure ()):=by
 intro ps c ps' e Q q
 rw[aaF] at e
 cases e
 exact kasC_lift (Xg q)
theorem cG {α α':Type}{f:α'->α}{c:Prop}[Decidable c]{t e:StateT WX Sem α}{t' e':oX α'}(h1:c->Sim prog w A E κ it s f t t')(h2:¬ c->Sim prog w A E κ it s f e e'):Sim prog w A E κ it s f (if c then t else e) (if c then t' else e'):=by
 by_cases h:c
 ·rw[if_pos h,if_pos h]
  exact h1 h
 ·rw[if_neg h,if_neg h]
  exact h2 h
def zT {β β':Type}(f:β'->β):ForInStep β'->ForInStep β
 | .done b=>.done (f b)
 | .yield b=>.yield (f b)
theorem Bk {β β':Type}{f:β'->β}{body:Nat->β->StateT WX Sem (ForInStep β)}{body':Nat->β'->oX (ForInStep β')}(h:∀ x b,Sim prog w A E κ it s (zT f) (body x (f b)) (body' x b)) :
  ∀ (l:IP) (b:β'),Sim prog w A E κ it s f (forIn l (f b) body) (forIn l b body')
 | [],b=>by
  rw[XS,XS]
  exact aJ U
 | x::l,b=>by
  rw[Xo,Xo]
  refine aM (h x b) fun r=>?_
  cases r with
  | done b'=>exact aJ U
  | yield b'=>exact Bk h l b'
theorem fB {β β':Type}{f:β'->β}{b0:β}{n m:Nat}{body:Nat->β->StateT WX Sem (ForInStep β)}{body':Nat->β'->oX (ForInStep β')}{b:β'}(e:b0=f b)(h:∀ x b,Sim prog w A E κ it s (zT f) (body x (f b)) (body' x b)) :
  Sim prog w A E κ it s f (forIn [n:m] b0 body) (forIn (WW n (m - n)) b body'):=by
 subst e
 intro ps a ps' e Q q
 exact kasC_range (Bk h _ _ ps a ps' e Q q)
def LM {ρ ρ' β β':Type}(fr:ρ'->ρ)(fb:β'->β)(x:Option ρ' × β'):Option ρ × β:=(x.1.map fr,fb x.2)
theorem gM {ρ ρ' β β' γ γ':Type}{fr:ρ'->ρ}{fb:β'->β}{g:γ'->γ}{m:StateT WX Sem (Option ρ × β)}{m':oX (Option ρ' × β')}{k:Option ρ × β->StateT WX Sem γ}{k':Option ρ' × β'->oX γ'}
  (h1:Sim prog w A E κ it s (LM fr fb) m m') (hs:∀ r b,Sim prog w A E κ it s g (k (some (fr r),fb b)) (k' (some r,b))) (hn:∀ b,Sim prog w A E κ it s g (k (none,fb b)) (k' (none,b))):Sim prog w A E κ it s g (m >>= k) (m' >>= k') :=
 aM h1 fun x=>match x with
  | (some r,b)=>hs r b
  | (none,b)=>hn b
end
def nM:Bool->Keyed->Array Keyed->Nat->Nat->Nat->StateT WX Sem (IH):=sortPriv% PySem.Builtin.gallop
def fM:Nat->StateT WX Sem Unit:=sortPriv% PySem.Builtin.setMinGallop
def uF:Array Keyed->Array Keyed->StateT WX Sem (Array Keyed):=sortPriv% PySem.Builtin.mergeLo
def Jj:Array Keyed->Array Keyed->StateT WX Sem (Array Keyed):=sortPriv% PySem.Builtin.mergeHi
theorem o5 (g:Nat):fM g=modify fun st=>Ys (kindOf st) (aaa st) (aaZ st) g (failedOf st):=rfl
theorem Cd (left:Bool)(key:Keyed)(arr:Array Keyed)(base n hint:Nat):nM left key arr base n hint=(do
 let beyond (i:Nat):StateT WX Sem (IE):=do
  let x ← aaE arr (base+i)
  if left then lt' x key else return (← lt' key x).map (!·)
 let mut lastofs:=0
 let mut ofs:=1
 let mut lo:=0
 let mut hi:=0
 let some right ← beyond hint | return none
 if right then
  let maxofs:=n - hint
  for _ in [0:n] do
   if ofs ≥ maxofs then break
   let some more ← beyond (hint+ofs) | return none
   if !more then break
   lastofs:=ofs
   ofs:=2 * ofs+1
  lo:=hint+lastofs+1
  hi:=hint+min ofs maxofs
 else
  let maxofs:=hint+1
  for _ in [0:n] do
   if ofs ≥ maxofs then break
   let some found ← beyond (hint - ofs) | return none
   if found then break
   lastofs:=ofs
   ofs:=2 * ofs+1
  lo:=hint+1 - min ofs maxofs
  hi:=hint - lastofs
 for _ in [0:n] do
  if lo ≥ hi then break
  let m:=lo+(hi - lo) / 2
  let some more ← beyond m | return none
  if more then lo:=m+1 else hi:=m
 return some hi):=rfl
section
variable (o:Nat->Nat->Bool)(N:Nat)
def jR (arr:IP)(i:Nat):oX Nat:=match arr[i]? with
 | some p=>pure p
 | none=>failure
def ltP (x y:Nat):oX (IE):=if x < N/\y < N then pure (some (o x y)) else failure
def mY (left:Bool)(key:Nat)(arr:IP)(base n hint:Nat):oX (IH):=do
 let beyond (i:Nat):oX (IE):=do
  let x ← jR arr (base+i)
  if left then ltP o N x key else return (← ltP o N key x).map (!·)
 let mut lastofs:=0
 let mut ofs:=1
 let mut lo:=0
 let mut hi:=0
 let some right ← beyond hint | return none
 if right then
  let maxofs:=n - hint
  for _ in WW 0 (n - 0) do
   if ofs ≥ maxofs then break
   let some more ← beyond (hint+ofs) | return none
   if !more then break
   lastofs:=ofs
   ofs:=2 * ofs+1
  lo:=hint+lastofs+1
  hi:=hint+min ofs maxofs
 else
  let maxofs:=hint+1
  for _ in WW 0 (n - 0) do
   if ofs ≥ maxofs then break
   let some found ← beyond (hint - ofs) | return none
   if found then break
   lastofs:=ofs
   ofs:=2 * ofs+1
  lo:=hint+1 - min ofs maxofs
  hi:=hint - lastofs
 for _ in WW 0 (n - 0) do
  if lo ≥ hi then break
  let m:=lo+(hi - lo) / 2
  let some more ← beyond m | return none
  if more then lo:=m+1 else hi:=m
 return some hi
end
section
variable {prog:Uy}{w:Ve}{A:Vf}{E:Ix}{κ:Xv}{it:Array Keyed}{s:TF}{o:Nat->Nat->Bool}{N:Nat}
theorem jX {arr:IP}{i:Nat}:Sim prog w A E κ it s (Xu it) (aaE (im it arr) i) (jR arr i):=by
 unfold jR im
 rw[elem'_eq,Zf,Uo]
 cases arr[i]? with
 | none=>intro ps a ps' e;cases e
 | some p=>exact aJ U
theorem Bu (hO:∀ i j,i < N->j < N->∀ C:Bool->TF->Prop,C (o i j) s->ZM prog w A κ it i j C s){x y:Nat}:Sim prog w A E κ it s id (lt' (Xu it x) (Xu it y)) (ltP o N x y):=by
 unfold ltP
 by_cases h:x < N/\y < N
 ·rw[if_pos h]
  intro ps a ps' e Q q
  rw[aaF] at e
  cases e
  rw[lt'_eq]
  refine kasC_bind (kasC_get ?_)
  refine kasC_bind (kasC_lift (W3 (VB (hO x y h.1 h.2 (fun c s'=>c=o x y/\s'=s) ⟨U,U⟩) (fun c s' hc=>?_) fun _ _ hF=>hF.elim)))
  obtain⟨rfl,rfl⟩:=hc
  exact kasC_pure q
 ·rw[if_neg h]
  intro ps a ps' e
  cases e
theorem m8 (hO:∀ i j,i < N->j < N->∀ C:Bool->TF->Prop,C (o i j) s->ZM prog w A κ it i j C s){left:Bool}{key:Nat}{arr:IP}{base n hint:Nat} :
  Sim prog w A E κ it s id (nM left (Xu it key) (im it arr) base n hint) (mY o N left key arr base n hint):=by
 rw[Cd]
 unfold mY
 have hb:∀ i,Sim prog w A E κ it s id (do
   let x ← aaE (im it arr) (base+i)
   if left then lt' x (Xu it key) else return (← lt' (Xu it key) x).map (!·)) (do
   let x ← jR arr (base+i)
   if left then ltP o N x key else return (← ltP o N key x).map (!·)):=fun i=>by
  refine aM jX fun a=>cG (fun _=>Bu hO) fun _=>aM (Bu hO) fun b=>aJ U
 dsimp only
 repeat' first
  | exact aJ rfl
  | (refine aM (hb _) fun a=>?_;rcases a with _ | a <;> dsimp only [id])
  | (refine gM (fr:=id) (fb:=id) (fB rfl fun x b=>?_) (fun r b=>?_) fun b=>?_ <;> dsimp only [id,LM])
  | (refine cG (fun _=>?_) fun _=>?_)
end
theorem yG (a b:Array Keyed):uF a b=(do
 rule "list.sort.merge-lo"
 let total:=a.size+b.size
 let done (out:Array Keyed) (ia ib:Nat):=out++a.extract ia a.size++b.extract ib b.size
 let lastOfA (out:Array Keyed) (ia ib:Nat):=out++b.extract ib b.size++a.extract ia a.size
 let mut out:Array Keyed:=#[← aaE b 0]
 let mut ia:=0
 let mut ib:=1
 if ib == b.size then return done out ia ib
 if ia+1 == a.size then return lastOfA out ia ib
 let mut minGallop:=gallopOf (← get)
 for _ in [0:total] do
  let mut acount:=0
  let mut bcount:=0
  for _ in [0:total] do
   let some bWins ← lt' (← aaE b ib) (← aaE a ia) | return done out ia ib
   if bWins then
    out:=out.push (← aaE b ib);ib:=ib+1;bcount:=bcount+1;acount:=0
    if ib == b.size then return done out ia ib
    if bcount ≥ minGallop then break
   else
    out:=out.push (← aaE a ia);ia:=ia+1;acount:=acount+1;bcount:=0
    if ia+1 == a.size then return lastOfA out ia ib
    if acount ≥ minGallop then break
  rule "list.sort.gallop"
  minGallop:=minGallop+1
  for _ in [0:total] do
   if minGallop > 1 then minGallop:=minGallop - 1
   fM minGallop
   let some k ← nM false (← aaE b ib) a ia (a.size - ia) 0 | return done out ia ib
   acount:=k
   if k > 0 then
    out:=out++a.extract ia (ia+k);ia:=ia+k
    if ia+1 == a.size then return lastOfA out ia ib
    if ia == a.size then return done out ia ib
   out:=out.push (← aaE b ib);ib:=ib+1
   if ib == b.size then return done out ia ib
   let some k ← nM true (← aaE a ia) b ib (b.size - ib) 0 | return done out ia ib
   bcount:=k
   if k > 0 then
    out:=out++b.extract ib (ib+k);ib:=ib+k
    if ib == b.size then return done out ia ib
   out:=out.push (← aaE a ia);ia:=ia+1
   if ia+1 == a.size then return lastOfA out ia ib
   if acount < 7 && bcount < 7 then break
  minGallop:=minGallop+1
  fM minGallop
 abX "internal:list.sort.merge-bound"):=rfl
def M5 (g:Nat):oX Unit:=modify fun ps=>{ ps with gal:=g }
def JP (_:String):oX Unit:=pure ()
def ue (o:Nat->Nat->Bool)(N:Nat)(a b:IP):oX (IP):=do
 JP "list.sort.merge-lo"
 let total:=a.length+b.length
 let done (out:IP) (ia ib:Nat):=out++a.extract ia a.length++b.extract ib b.length
 let lastOfA (out:IP) (ia ib:Nat):=out++b.extract ib b.length++a.extract ia a.length
 let mut out:IP:=[← jR b 0]
 let mut ia:=0
 let mut ib:=1
 if ib == b.length then return done out ia ib
 if ia+1 == a.length then return lastOfA out ia ib
 let mut minGallop:=(← get).gal
 for _ in WW 0 (total - 0) do
  let mut acount:=0
  let mut bcount:=0
  for _ in WW 0 (total - 0) do
   let some bWins ← ltP o N (← jR b ib) (← jR a ia) | return done out ia ib
   if bWins then
    out:=out++[← jR b ib];ib:=ib+1;bcount:=bcount+1;acount:=0
    if ib == b.length then return done out ia ib
    if bcount ≥ minGallop then break
   else
    out:=out++[← jR a ia];ia:=ia+1;acount:=acount+1;bcount:=0
    if ia+1 == a.length then return lastOfA out ia ib
    if acount ≥ minGallop then break
  JP "list.sort.gallop"
  minGallop:=minGallop+1
  for _ in WW 0 (total - 0) do
   if minGallop > 1 then minGallop:=minGallop - 1
   M5 minGallop
   let some k ← mY o N false (← jR b ib) a ia (a.length - ia) 0 | return done out ia ib
   acount:=k
   if k > 0 then
    out:=out++a.extract ia (ia+k);ia:=ia+k
    if ia+1 == a.length then return lastOfA out ia ib
    if ia == a.length then return done out ia ib
   out:=out++[← jR b ib];ib:=ib+1
   if ib == b.length then return done out ia ib
   let some k ← mY o N true (← jR a ia) b ib (b.length - ib) 0 | return done out ia ib
   bcount:=k
   if k > 0 then
    out:=out++b.extract ib (ib+k);ib:=ib+k
    if ib == b.length then return done out ia ib
   out:=out++[← jR a ia];ia:=ia+1
   if ia+1 == a.length then return lastOfA out ia ib
   if acount < 7 && bcount < 7 then break
  minGallop:=minGallop+1
  M5 minGallop
 failure
section
variable {prog:Uy}{w:Ve}{A:Vf}{E:Ix}{κ:Xv}{it:Array Keyed}{s:TF}{o:Nat->Nat->Bool}{N:Nat}
def FB {β:Type}(it:Array Keyed)(x:IP × β):Array Keyed × β:=(im it x.1,x.2)
theorem jT (it:Array Keyed)(l:IP)(a b:Nat):(im it l).extract a b=im it (l.extract a b):=by simp [im,List.extract]
theorem yr (it:Array Keyed)(l:IP):(im it l).size=l.length:=by simp [im]
theorem v7 {r:String}:Sim prog w A E κ it s id (liftM (rule r):StateT WX Sem Unit) (JP r):=JM
theorem JF {g:Nat}:Sim prog w A E κ it s id (fM g) (M5 g):=by
 rw[o5]
 exact uy fun ps=>U
theorem j0 {α α':Type}{f:α'->α}{m:StateT WX Sem α}:Sim prog w A E κ it s f m failure:=by
 intro ps a ps' e
 cases e
theorem zK (hO:∀ i j,i < N->j < N->∀ C:Bool->TF->Prop,C (o i j) s->ZM prog w A κ it i j C s){a b:IP} :
  Sim prog w A E κ it s (im it) (uF (im it a) (im it b)) (ue o N a b):=by
 rw[yG]
 unfold ue
 dsimp only
 simp only[yr]
 repeat' first
  | (with_reducible refine aJ ?_);(first | rfl | (simp [zT,LM,FB,im,List.extract];done) | (rw[jT,jT];simp [im];done))
  | with_reducible exact j0
  | with_reducible refine cG (fun _=>?_) fun _=>?_
  | with_reducible refine aM jX fun a=>?_
  | with_reducible refine aM JF fun _=>?_
  | with_reducible refine aM v7 fun _=>?_
  | with_reducible refine aM jH fun _=>?_
  | (with_reducible refine aM (Bu hO) fun a=>?_);rcases a with _ | a <;> dsimp only [id]
  | (with_reducible refine aM (m8 hO) fun a=>?_);rcases a with _ | a <;> dsimp only [id]
  | (with_reducible refine gM (fr:=im it) (fb:=FB it) (fB ?_ fun x b=>?_) (fun r b=>?_) fun b=>?_) <;> (first | rfl | simp [LM,FB,Srt.st,im];done | dsimp only [LM,FB])
end
theorem yM (i:Nat):mergeAt' i=(do
 let s ← get
 let (some (sa,na,power),some (sb,nb,_)):=((aaZ s)[i]?,(aaZ s)[i+1]?) | abX "internal:list.sort.pending"
 set (setPending s (((aaZ s).setIfInBounds i (sa,na+nb,power)).eraseIdxIfInBounds (i+1)))
 let some k ← nM false (← aaE (aaa s) sb) (aaa s) sa na 0 | return false
 let (sa,na):=(sa+k,na - k)
 if na == 0 then return true
 let some nb ← nM true (← aaE (aaa s) (sa+na - 1)) (aaa s) sb nb (nb - 1) | return false
 if nb == 0 then return true
 let x:=(aaa s).extract sa sb
 let y:=(aaa s).extract sb (sb+nb)
 let merged ← if na<=nb then uF x y else Jj x y
 modify fun s=>setArr s (merged.toList.zipIdx.foldl (fun a (p,j)=>a.setIfInBounds (sa+j) p) (aaa s))
 return (failedOf (← get)).isNone):=rfl
def pH (o:Nat->Nat->Bool)(N:Nat)(i:Nat):oX Bool:=do
 let s ← get
 let (some (sa,na,power),some (sb,nb,_)):=(s.pend[i]?,s.pend[i+1]?) | failure
 set ({ s with pend:=((s.pend.setIfInBounds i (sa,na+nb,power)).eraseIdxIfInBounds (i+1)) }:Srt)
 let some k ← mY o N false (← jR s.a sb) s.a sa na 0 | return false
 let (sa,na):=(sa+k,na - k)
 if na == 0 then return true
 let some nb ← mY o N true (← jR s.a (sa+na - 1)) s.a sb nb (nb - 1) | return false
 if nb == 0 then return true
 let x:=s.a.extract sa sb
 let y:=s.a.extract sb (sb+nb)
 let merged ← if na<=nb then ue o N x y else failure
 Rx (fun s=>Nat.ble (sa+merged.length) s.a.length) fun s=>{ s with a:=s.a.take sa++(merged++s.a.drop (sa+merged.length)) }
 return (← get).ok
section
variable {prog:Uy}{w:Ve}{A:Vf}{E:Ix}{κ:Xv}{it:Array Keyed}{s:TF}{o:Nat->Nat->Bool}{N:Nat}
def Gm (a:IP)(src dst:Nat):IP:=a.take dst++((a.drop src).take 1++((a.drop dst).take (src - dst)++a.drop (src+1)))
theorem Kw (c:Nat):∀ (l:List Keyed) (n:Nat) (p:List Keyed),c+n+l.length<=p.length->YZ (fun (a:Array Keyed) (x:Keyed × Nat)=>a.setIfInBounds (c+x.snd) x.fst) p.toArray (l.zipIdx n)=(p.take (c+n)++(l++p.drop (c+n+l.length))).toArray
 | [],n,p,h=>by simp
 | x::l,n,p,h=>by
  rw[Um] at h
  rw[Zn,Vw]
  show YZ _ ((p.toArray).setIfInBounds (c+n) x) (l.zipIdx (n+1))=_
  rw[List.setIfInBounds_toArray,Kw c l (n+1) (p.set (c+n) x) (by rw[Xn];lia)]
  congr 1
  have e1:(p.set (c+n) x).take (c+(n+1))=p.take (c+n)++[x]:=by
   rw[show c+(n+1)=c+n+1 by lia,Ux,List.take_set_of_le (Ua _),Yc (by lia)]
   rfl
  rw[e1,List.drop_set_of_lt (by lia),show c+(n+1)+l.length=c+n+(x::l).length by rw[Um];lia]
  simp
theorem Mg (it:Array Keyed)(m:IP)(c:Nat)(p:IP)(h:c+m.length<=p.length):YZ (fun (a:Array Keyed) (x:Keyed × Nat)=>a.setIfInBounds (c+x.snd) x.fst) (im it p) (im it m).toList.zipIdx=im it (p.take c++(m++p.drop (c+m.length))):=by
 have:=Kw c (m.map (Xu it)) 0 (p.map (Xu it)) (by simp;lia)
 unfold im
 rw[show ((m.map (Xu it)).toArray).toList=m.map (Xu it) from U,this]
 simp
theorem Nm (it:Array Keyed){p:IP}{i j:Nat}(h1:j<=i)(h2:i < p.length):bubble (im it p) i (i - j)=im it (Gm p i j):=by
 have hs:i < (im it p).size:=by rw[yr];exact h2
 apply Array.ext_getElem?
 intro k
 rw[getElem?_bubble hs (i - j) (by lia) k,show i - (i - j)=j by lia]
 have g:∀ k:Nat,(im it p)[k]? = (p[k]?).map (Xu it):=fun k=>by simp [im]
 have g2:(im it (Gm p i j))[k]? = ((Gm p i j)[k]?).map (Xu it):=by simp [im]
 rw[g2,g,g,g]
 have lj:(p.take j).length=j:=by rw[Uj];lia
 have l1:((p.drop i).take 1).length=1:=by rw[Uj,V4];lia
 have l2:((p.drop j).take (i - j)).length=i - j:=by rw[Uj,V4];lia
 unfold Gm
 by_cases c1:k=j
 ·subst c1
  rw[if_pos U,Vl (by lia),lj,abu,Wh (by lia),YH (by lia),abf,Nat.add_zero]
 ·rw[if_neg c1]
  by_cases c2:j < k/\k<=i
  ·rw[if_pos c2,Vl (by lia),lj,Vl (by lia),l1,Wh (by lia),YH (by lia),abf,show j+(k - j - 1)=k - 1 by lia]
  ·rw[if_neg c2]
   by_cases c3:k < j
   ·rw[Wh (by lia),YH c3]
   ·rw[Vl (by lia),lj,Vl (by lia),l1,Vl (by lia),l2,abf,show i+1+(k - j - 1 - (i - j))=k by lia]
theorem pX (hO:∀ i j,i < N->j < N->∀ C:Bool->TF->Prop,C (o i j) s->ZM prog w A κ it i j C s){i:Nat}:Sim prog w A E κ it s id (mergeAt' i) (pH o N i):=by
 rw[yM]
 unfold pH
 dsimp only
 refine aM jH fun ps=>?_
 rw[show aaZ (Srt.st κ it ps)=ps.pend from U,show aaa (Srt.st κ it ps)=im it ps.a from U]
 rcases ps.pend[i]? with _ | ⟨sa,na,pw⟩
 ·exact j0
 rcases ps.pend[i+1]? with _ | ⟨sb,nb,pw'⟩
 ·exact j0
 dsimp only
 refine aM (Nq U) fun _=>aM jX fun x=>aM (m8 hO) fun k=>?_
 rcases k with _ | k <;> dsimp only [id]
 ·exact aJ U
 refine cG (fun _=>aJ U) fun _=>?_
 refine aM jX fun x=>aM (m8 hO) fun k2=>?_
 rcases k2 with _ | nb2 <;> dsimp only [id]
 ·exact aJ U
 refine cG (fun _=>aJ U) fun _=>?_
 refine cG (fun _=>?_) fun _=>j0
 rw[jT,jT]
 refine aM (zK hO) fun m=>?_
 refine aM (Bv fun ps hc=>?_) fun _=>aM jH fun _=>aJ U
 show Ys κ _ _ _ none=Ys κ _ _ _ none
 congr 1
 exact Mg it _ _ _ (aaO hc)
def Fl (o:Nat->Nat->Bool)(N i j:Nat):oX (IE):=do
 let a:=(← get).a
 ltP o N (← jR a i) (← jR a j)
def Pa (src dst:Nat):oX Unit:=Rx (fun ps=>Nat.ble dst src && Za src ps.a.length) fun ps=>{ ps with a:=Gm ps.a src dst }
def countP (o:Nat->Nat->Bool)(N lo nrem:Nat):oX (IH):=do
 let mut n:=1
 for _ in WW 1 (nrem - 1) do
  let some smaller ← Fl o N (lo+n) (lo+n - 1) | return none
  if smaller then break
  n:=n+1
 if n == nrem then return some n
 if n > 1 then
  let some rose ← Fl o N lo (lo+n - 1) | return none
  if rose then return some n else failure
 else failure
def RD (o:Nat->Nat->Bool)(N lo n ok:Nat):oX Bool:=do
 for k in WW (max ok 1) (n - max ok 1) do
  let mut l:=0
  let mut r:=k
  for _ in WW 0 (k - 0) do
   if l ≥ r then break
   let m:=(l+r) / 2
   let some less ← Fl o N (lo+k) (lo+m) | return false
   if less then r:=m else l:=m+1
  Pa (lo+k) (lo+l)
 return true
def mq (o:Nat->Nat->Bool)(N:Nat):oX Unit:=do
 let size:=(← get).a.length
 let minrun:=minRun' size size 0
 let mut lo:=0
 for _ in WW 0 (size - 0) do
  if lo ≥ size then break
  let some found ← countP o N lo (size - lo) | return
  let mut n:=found
  if n < minrun then
   JP "list.sort.binary-insertion"
   let force:=min (size - lo) minrun
   if !(← RD o N lo force n) then return
   n:=force
  if let some (s1,n1,_):=(← get).pend.back? then
   let pw:=power' size (2 * s1+n1) (2 * s1+n1+n1+n) size
   for _ in WW 0 (size - 0) do
    let p:=(← get).pend
    let some (_,_,older):=(if p.size > 1 then p[p.size - 2]? else none) | break
    if older<=pw then break
    if !(← pH o N (p.size - 2)) then return
   modify fun s=>{ s with pend:=s.pend.modify (s.pend.size - 1) fun (st,len,_)=>(st,len,pw) }
  modify fun s=>{ s with pend:=s.pend.push (lo,n,0) }
  lo:=lo+n
 for _ in WW 0 (size - 0) do
  let p:=(← get).pend
  if p.size<=1 then break
  let i:=p.size - 2
  let before:=if i > 0 then p[i - 1]?.map (·.2.1) else none
  let i:=if before.any (· < (p[i+1]?.elim 0 (·.2.1))) then i - 1 else i
  if !(← pH o N i) then return
theorem uA (hO:∀ i j,i < N->j < N->∀ C:Bool->TF->Prop,C (o i j) s->ZM prog w A κ it i j C s){i j:Nat}:Sim prog w A E κ it s id (ltAt' i j) (Fl o N i j):=by
 rw[ltAt'_eq]
 unfold Fl
 dsimp only
 refine aM jH fun ps=>?_
 rw[show aaa (Srt.st κ it ps)=im it ps.a from U]
 exact aM jX fun _=>aM jX fun _=>Bu hO
theorem Jg {i j:Nat}:Sim prog w A E κ it s id (moveDown' i j) (Pa i j):=by
 rw[moveDown'_eq]
 refine Bv fun ps hc=>?_
 show Ys κ _ _ _ none=Ys κ _ _ _ none
 congr 1
 obtain⟨h1,h2⟩:=Bool.and_eq_true_iff.mp hc
 exact Nm it (aaO h1) (aaO h2)
theorem Es (hO:∀ i j,i < N->j < N->∀ C:Bool->TF->Prop,C (o i j) s->ZM prog w A κ it i j C s){lo nrem:Nat}:Sim prog w A E κ it s id (countRun' lo nrem) (countP o N lo nrem):=by
 rw[countRun'_eq]
 unfold countP
 dsimp only
 refine gM (fr:=id) (fb:=id) (fB U fun x b=>?_) (fun r b=>?_) fun b=>?_
 ·refine aM (uA hO) fun a=>?_
  rcases a with _ | a <;> dsimp only [id]
  ·exact aJ U
  ·exact cG (fun _=>aJ U) fun _=>aJ U
 ·exact aJ U
 ·dsimp only [id]
  refine cG (fun _=>aJ U) fun _=>cG (fun _=>?_) fun _=>j0
  refine aM (uA hO) fun a=>?_
  rcases a with _ | a <;> dsimp only [id]
  ·exact aJ U
  ·exact cG (fun _=>aJ U) fun _=>j0
theorem LR (hO:∀ i j,i < N->j < N->∀ C:Bool->TF->Prop,C (o i j) s->ZM prog w A κ it i j C s){lo n ok:Nat}:Sim prog w A E κ it s id (binarySort' lo n ok) (RD o N lo n ok):=by
 rw[binarySort'_eq]
 unfold RD
 dsimp only
 refine gM (fr:=id) (fb:=id) (fB U fun x b=>?_) (fun r b=>?_) fun b=>?_
 ·refine gM (fr:=id) (fb:=id) (fB U fun x b=>?_) (fun r b=>?_) fun b=>?_
  ·dsimp only [LM,id]
   refine cG (fun _=>aJ U) fun _=>aM (uA hO) fun a=>?_
   rcases a with _ | a <;> dsimp only [id]
   ·exact aJ U
   ·exact cG (fun _=>aJ U) fun _=>aJ U
  ·exact aJ U
  ·exact aM Jg fun _=>aJ U
 ·exact aJ U
 ·exact aJ U
theorem J4 (hO:∀ i j,i < N->j < N->∀ C:Bool->TF->Prop,C (o i j) s->ZM prog w A κ it i j C s):Sim prog w A E κ it s id sortRuns' (mq o N):=by
 rw[sortRuns'_eq]
 unfold mq
 dsimp only
 refine aM jH fun ps=>?_
 rw[show (aaa (Srt.st κ it ps)).size=ps.a.length from yr it ps.a]
 have pd:∀ q:Srt,aaZ (Srt.st κ it q)=q.pend:=fun q=>U
 refine gM (fr:=id) (fb:=id) (fB U fun x b=>?_) (fun r b=>?_) fun b=>?_
 ·dsimp only [LM,id]
  refine cG (fun _=>aJ U) fun _=>?_
  refine aM (Es hO) fun a=>?_
  rcases a with _ | a <;> dsimp only [id]
  ·exact aJ U
  refine cG (fun _=>aM v7 fun _=>aM (LR hO) fun ok=>cG (fun _=>aJ U) fun _=>?_) fun _=>?_
  all_goals
   refine aM jH fun q=>?_
   rw[pd]
   rcases q.pend.back? with _ | ⟨s1,n1,_⟩ <;> dsimp only
   ·exact aM (uy fun q=>U) fun _=>aJ U
   refine gM (fr:=id) (fb:=id) (fB U fun x b=>?_) (fun r b=>?_) fun b=>?_
   ·refine aM jH fun q=>?_
    rw[pd]
    generalize (if q.pend.size > 1 then q.pend[q.pend.size - 2]? else none)=z
    rcases z with _ | ⟨_,_,older⟩ <;> dsimp only
    ·exact aJ U
    ·exact cG (fun _=>aJ U) fun _=>aM (pX hO) fun ok=>cG (fun _=>aJ U) fun _=>aJ U
   ·exact aJ U
   ·exact aM (uy fun q=>U) fun _=>aM (uy fun q=>U) fun _=>aJ U
 ·exact aJ U
 ·refine gM (fr:=id) (fb:=id) (fB U fun x b=>?_) (fun r b=>?_) fun b=>?_
  ·refine aM jH fun q=>?_
   rw[pd]
   exact cG (fun _=>aJ U) fun _=>aM (pX hO) fun ok=>cG (fun _=>aJ U) fun _=>aJ U
  ·exact aJ U
  ·exact aJ U
theorem Ca {n:Nat}{p:IP}{Q:Unit->WX->TF->Prop}(hO:∀ i j,i < n->j < n->∀ C:Bool->TF->Prop,C (o i j) s->ZM prog w A κ it i j C s)
  (e:(((mq o n).run ⟨Ui n,#[],7⟩).map fun r=>r.2.a)=some p) (hG:∀ st',aaa st'=im it p->failedOf st'=none->Q () st' s):kasC (Up prog w) A E sortRuns' Q (Ys κ (im it (Ui n)) #[] 7 none) s:=by
 cases e1:(mq o n).run ⟨Ui n,#[],7⟩with
 | none=>rw[e1] at e;cases e
 | some r =>
  obtain⟨u,ps'⟩:=r
  rw[e1] at e
  have e2:ps'.a=p:=U4 e
  subst e2
  exact J4 hO ⟨Ui n,#[],7⟩ u ps' e1 Q (hG _ U U)
end
def aW:Nat->Iy
 | 0=>[[]]
 | n+1=>aW n++(aW n).map (·++[n])
def Q3:IP->IP->Bool
 | [],[]=>false
 | [],_::_=>true
 | _::_,[]=>false
 | a::l,b::r=>if a=b then Q3 l r else decide (a < b)
def Rn (a b:IP):Bool:=if a.length=b.length then Q3 a b else decide (a.length < b.length)
def crO (n i j:Nat):Bool:=Rn ((aW n).getD i []) ((aW n).getD j [])
def crR:Nat->IP
 | 1=>[0,1]
 | 2=>[0,1,2,3]
 | 3=>[0,1,2,4,3,5,6,7]
 | 4=>[0,1,2,5,3,6,8,11,4,7,9,12,10,13,14,15]
 | 5=>[0,1,2,6,3,7,10,16,4,8,11,17,13,19,22,26,5,9,12,18,14,20,23,27,15,21,24,28,25,29,30,31]
 | 6=>[0,1,2,7,3,8,12,22,4,9,13,23,16,26,32,42,5,10,14,24,17,27,33,43,19,29,35,45,38,48,52,57,6,11,15,25,18,28,34,44,20,30,36,46,39,49,53,58,21,31,37,47,40,50,54,59,41,51,55,60,56,61,62,63]
 | _=>[]
def crS:Nat->IP
 | 1=>[0,1]
 | 2=>[0,1,2,3]
 | 3=>[0,1,2,4,3,5,6,7]
 | 4=>[0,1,2,4,8,3,5,9,6,10,12,7,11,13,14,15]
 | 5=>[0,1,2,4,8,16,3,5,9,17,6,10,18,12,20,24,7,11,19,13,21,25,14,22,26,28,15,23,27,29,30,31]
 | 6=>[0,1,2,4,8,16,32,3,5,9,17,33,6,10,18,34,12,20,36,24,40,48,7,11,19,35,13,21,37,25,41,49,14,22,38,26,42,50,28,44,52,56,15,23,39,27,43,51,29,45,53,57,30,46,54,58,60,31,47,55,59,61,62,63]
 | _=>[]
theorem R6:(((mq (fun i j=>Za ((crR 1).getD i 0) ((crR 1).getD j 0)) 2).run ⟨Ui 2,#[],7⟩).map fun r=>r.2.a)=some (crS 1):=by decide+kernel
theorem Tr:∀ i < 2,∀ j < 2,crO 1 i j=Za ((crR 1).getD i 0) ((crR 1).getD j 0):=by decide+kernel
theorem Tf:(((mq (fun i j=>Za ((crR 2).getD i 0) ((crR 2).getD j 0)) 4).run ⟨Ui 4,#[],7⟩).map fun r=>r.2.a)=some (crS 2):=by decide+kernel
theorem Sh:∀ i < 4,∀ j < 4,crO 2 i j=Za ((crR 2).getD i 0) ((crR 2).getD j 0):=by decide+kernel
theorem Ti:(((mq (fun i j=>Za ((crR 3).getD i 0) ((crR 3).getD j 0)) 8).run ⟨Ui 8,#[],7⟩).map fun r=>r.2.a)=some (crS 3):=by decide+kernel
theorem Sx:∀ i < 8,∀ j < 8,crO 3 i j=Za ((crR 3).getD i 0) ((crR 3).getD j 0):=by decide+kernel
theorem Td:(((mq (fun i j=>Za ((crR 4).getD i 0) ((crR 4).getD j 0)) 16).run ⟨Ui 16,#[],7⟩).map fun r=>r.2.a)=some (crS 4):=by decide+kernel
theorem Tg:∀ i < 16,∀ j < 16,crO 4 i j=Za ((crR 4).getD i 0) ((crR 4).getD j 0):=by decide+kernel
theorem Sv:(((mq (fun i j=>Za ((crR 5).getD i 0) ((crR 5).getD j 0)) 32).run ⟨Ui 32,#[],7⟩).map fun r=>r.2.a)=some (crS 5):=by decide+kernel
theorem SN:∀ i < 32,∀ j < 32,crO 5 i j=Za ((crR 5).getD i 0) ((crR 5).getD j 0):=by decide+kernel
theorem SM:(((mq (fun i j=>Za ((crR 6).getD i 0) ((crR 6).getD j 0)) 64).run ⟨Ui 64,#[],7⟩).map fun r=>r.2.a)=some (crS 6):=by decide+kernel
theorem S6:∀ i < 64,∀ j < 64,crO 6 i j=Za ((crR 6).getD i 0) ((crR 6).getD j 0):=by decide+kernel
end L2
namespace L2
open PySem PySem.Spec PyProof.Rows PySem.W PySem.SeqAt
open MeetsSeq MeetsSeq2 MeetsSeq3
theorem iU:∀ {vs:IF} {ns:IN} {i:Nat} {n:Int},Vn vs ns->ns[i]? = some n->∃ t,vs[i]? = some (.int n t)
 | _,_,i,_,.nil,h=>by simp at h
 | _,_,0,_,.cons m t r,h=>by
  cases h
  exact⟨t,U⟩
 | _,_,i+1,n,.cons m t r,h=>by
  obtain⟨t',e⟩:=iU (i:=i) r (by simpa using h)
  exact⟨t',by simpa using e⟩
theorem Ey (l b:Addr)(items items2:Array Value)(n n2:Nat)(dd dd2:ID)(sl sl2:Array (IC)){ns ms:IN}(i1:Vn items.toList ns)(i2:Vn items2.toList ms)(hsz:ns.length=ms.length)(k:Nat) :
  ∀ i:Nat,ns.length - i=k->abw (Builtin.«list.__eq__.loop» ⟨[.ref l,.ref b,V2 i,V2 0],[]⟩)
   (fun A R s=>s.heap.get? l=some { cls:=.type "list",dict:=dd,data:=.seq items n,slots:=sl }/\s.heap.get? b=some { cls:=.type "list",dict:=dd2,data:=.seq items2 n2,slots:=sl2 } ∧
    R (.ok (.ret (.bool (HT.lexLt (ns.drop i) (ms.drop i))))) s):=by
 have z1:items.size=ns.length:=by rw[← Uv];exact i1.length
 have z2:items2.size=ms.length:=by rw[← Uv];exact i2.length
 induction k with
 | zero =>
  intro i hk prog w A R s h
  obtain⟨hp,g,d,tk,os⟩:=s;obtain⟨hl,hb,h⟩:=h
  wp_walk using UG hl,UG hb
  have hi1:items[((i:Nat):Int).toNat]? = none:=by simp;lia
  have hi2:items2[((i:Nat):Int).toNat]? = none:=by simp;lia
  rw[Xe (by lia),Xe (by lia)] at h
  rw[hi1,hi2]
  wp_walk using UG hl,UG hb
  show R (.ok (.ret (.bool (decide (items.size < items2.size))))) _
  rw[z1,z2,hsz,decide_eq_false (Wq _)]
  exact h
 | succ k ih =>
  intro i hk prog w A R s h
  obtain⟨hp,g,d,tk,os⟩:=s;obtain⟨hl,hb,h⟩:=h
  wp_walk using UG hl,UG hb
  have hlt:i < ns.length:=by lia
  have hlt2:i < ms.length:=by lia
  obtain⟨t1,e1⟩:=iU i1 (TJ hlt)
  obtain⟨t2,e2⟩:=iU i2 (TJ hlt2)
  have hi1:items[((i:Nat):Int).toNat]? = some (.int ns[i] t1):=by rw[UL,← Vk];exact e1
  have hi2:items2[((i:Nat):Int).toNat]? = some (.int ms[i] t2):=by rw[UL,← Vk];exact e2
  have hc:((i:Int)+1)=((i+1:Nat):Int):=by push_cast;rfl
  rw[Wi hlt,Wi hlt2,HT.fU] at h
  rw[hi1,hi2]
  refine Tv (aao ?_)
  by_cases hb':ns[i]=ms[i]
  ·rw[if_pos hb'] at h
   rw[show (ns[i] == ms[i])=true by simp [hb']]
   wp_walk
   rw[hc]
   exact⟨Wo plain_eq_loop _,V8 entry_eq_loop (by
    rw[VN plain_eq_loop _]
    exact ih (i+1) (by lia) prog w A R _ ⟨hl,hb,h⟩)⟩
  ·rw[if_neg hb'] at h
   rw[show (ns[i] == ms[i])=false by simp [hb']]
   wp_walk using UG hl,UG hb
   rw[hi1,hi2]
   show Ug _ _ (do let v ← richCompare .Lt (.int ns[i] t1) (.int ms[i] t2);ret v) _ _ _
   refine Tv (show Ug _ _ (Wl .Lt (.int ns[i] t1) (.int ms[i] t2)) _ _ _ from PyProof.Rows.lt_int ?_)
   exact TV h
theorem Fv (l b:Addr)(items items2:Array Value)(n n2:Nat)(dd dd2:ID)(sl sl2:Array (IC)){ns ms:IN}(i1:Vn items.toList ns)(i2:Vn items2.toList ms)(hsz:ns.length=ms.length) :
  abw (Builtin.«list.__lt__» ⟨[.ref l,.ref b],[]⟩)
   (fun A R s=>s.heap.get? l=some { cls:=.type "list",dict:=dd,data:=.seq items n,slots:=sl }/\s.heap.get? b=some { cls:=.type "list",dict:=dd2,data:=.seq items2 n2,slots:=sl2 } ∧
    R (.ok (.ret (.bool (HT.lexLt ns ms)))) s):=by
 intro prog w A R s h
 obtain⟨hp,g,d,tk,os⟩:=s;obtain⟨hl,hb,h⟩:=h
 have f3:=AutoSeq1.sub_list_list
 wp_walk using UG hl,UG hb
 exact⟨Wo plain_eq_loop _,V8 entry_eq_loop (by
  rw[VN plain_eq_loop _]
  exact Ey l b items items2 n n2 dd dd2 sl sl2 i1 i2 hsz _ 0 U prog w A R _ ⟨hl,hb,h⟩)⟩
section
variable {prog:Uy}{w:Ve}{A:Vf}{E:Ix}{s:TF}
theorem Jq {l b:Addr}{items items2:Array Value}{ns ms:IN}{Q:Ix}(hl:s.heap.IsList l items)(hb:s.heap.IsList b items2)(i1:Vn items.toList ns)(i2:Vn items2.toList ms)(hsz:ns.length=ms.length)(hu:A.units < cLine)(h:Q (.bool (HT.lexLt ns ms)) s):Ug (Up prog w) A (Wl .Lt (.ref l) (.ref b)) Q E s:=by
 obtain⟨⟨cls,dd,data,sl⟩,ho,hc,n,hd⟩:=id hl
 obtain⟨⟨cls2,dd2,data2,sl2⟩,ho2,hc2,n2,hd2⟩:=id hb
 simp only at hc hd hc2 hd2
 subst hc hd hc2 hd2
 exact richCompare_meets_room (op:=.Lt) ⟨_,ho,U⟩ ⟨_,ho2,U⟩ F.slot_list_lt F.entry_list_lt (F.args_list_lt_2 _ _) (Fv l b items items2 n n2 dd dd2 sl sl2 i1 i2 hsz)
  ⟨ho,ho2,show aaw (HT.lexLt ns ms)≠Value.notImplemented/\Q (.bool (HT.lexLt ns ms)) s from ⟨(fun x=>nomatch x),h⟩⟩ hu
def jM (h h':Vv)(a:Addr):Prop:=∀ b o,b≠a->h.get? b=some o->h'.get? b=some o
theorem qP {a:Addr} {vs:IF} {n:Nat} {κ:Xv} {o:Nat->Nat->Bool} {p:IP} {P:Fin->TF->Prop} (ho:s.heap.get? a=some (VJ "list" vs.toArray n)) (hz:vs.length<=5000) (h2:2<=vs.length) (hpl:p.length=vs.length)
  (hk:∀ h',jM s.heap h' a->∀ Q:Xv->TF->Prop,Q κ { s with heap:=h' }->Ug (Up prog w) A (keyKind' vs.toArray) Q E { s with heap:=h' })
  (hO:∀ h',jM s.heap h' a->∀ i j,i < vs.length->j < vs.length->∀ C:Bool->TF->Prop,C (o i j) { s with heap:=h' }->Ug (Up prog w) A (keyLt' κ (vs.getD i U0) (vs.getD j U0)) C (fun _ _=>False) { s with heap:=h' })
  (he:(((mq o vs.length).run ⟨Ui vs.length,#[],7⟩).map fun r=>r.2.a)=some p)
  (h:P (.done (.ret .none)) { s with heap:=sortedHeap s.heap a vs (p.map fun i=>vs.getD i U0).toArray }) :
  Ug (Up prog w) A (Builtin.«list.sort» ⟨[.ref a],[]⟩) P E s:=by
 rw[list_sort_plain]
 have ha:a < s.heap.objs.size:=Uk ho
 refine Tv (listItems_at ho U ?_)
 refine Tv (aaj ho U ?_ (by rw[Ue,Wv];lia) (Uw _))
 obtain⟨e1,ho1⟩:∃ e1,(s.heap.update a (Vh fun _=>#[])).get? a=some (VJ "list" #[] e1):=⟨_,get?_update_seq ho (fun _=>#[])⟩
 refine Tv (aaS ho1 U ?_)
 refine Tv (aaR ?_ (by show vs.length<=_;rw[Wv];lia))
 refine Tv (aag ?_ (Uw _))
 refine V5 ?_
 have ho6:(((s.heap.update a (Vh fun _=>#[])).push (VJ "tuple" vs.toArray 0)).push (VJ "list" #[] 0)).get? a=some (VJ "list" #[] e1):=by
  rw[V6 _ _ _ (by rw[aav,Wy];exact Uq (Vi ha)),V6 _ _ _ (by rw[Wy];exact Uq ha)]
  exact ho1
 have kp:jM s.heap (((s.heap.update a (Vh fun _=>#[])).push (VJ "tuple" vs.toArray 0)).push (VJ "list" #[] 0)) a:=fun b o hb e=>by
  have hlt:b < s.heap.objs.size:=Uk e
  rw[V6 _ _ _ (by rw[aav,Wy];exact Uq (Vi hlt)),V6 _ _ _ (by rw[Wy];exact Uq hlt),ZL _ _ _ _ hb]
  exact e
 show Ug (Up prog w) A _ P E { s with heap:=((s.heap.update a (Vh fun _=>#[])).push (VJ "tuple" vs.toArray 0)).push (VJ "list" #[] 0) }
 dsimp only
 have hsz:vs.toArray.size=vs.length:=by simp
 rw[if_neg (by lia),if_neg (by lia)]
 refine Tv (hk _ kp _ ?_)
 have est:Ys κ (vs.toArray.zip vs.toArray) #[] 7 none=Ys κ (im (Yo vs) (Ui vs.length)) #[] 7 none:=by
  have e:=kas_range (Yo vs)
  rw[show (Yo vs).size=vs.length from pairsOf_size vs] at e
  congr 1
  rw[im,← List.map_toArray,e]
  rfl
 rw[est]
 refine Tv (VB (Ca (prog:=prog) (w:=w) (A:=A) (E:=E) (it:=Yo vs) (κ:=κ) (s:={ s with heap:=((s.heap.update a (Vh fun _=>#[])).push (VJ "tuple" vs.toArray 0)).push (VJ "list" #[] 0) })
  (Q:=fun _ st' s'=>(aaa st'=im (Yo vs) p/\failedOf st'=none)/\s'={ s with heap:=((s.heap.update a (Vh fun _=>#[])).push (VJ "tuple" vs.toArray 0)).push (VJ "list" #[] 0) }) (fun i j hi hj C hC=>?_) he fun st' e1 e2=>⟨⟨e1,e2⟩,U⟩) ?_ fun _ _ e=>e)
 ·unfold ZM
  rw[Z9,Z9]
  exact hO _ kp i j hi hj C hC
 ·rintro⟨⟨⟩,st'⟩ s' ⟨⟨e1,e2⟩,rfl⟩
  dsimp only at e1 e2 ⊢
  have em:(aaa st').map (·.2)=(p.map fun i=>vs.getD i U0).toArray:=by
   rw[e1,im]
   simp [Z9]
  refine Tv (aaS ho6 U ?_)
  refine Tv (aaj ho6 U ?_ (Uw _) (by rw[em,Ue,Tw,hpl,Wv];lia))
  rw[e2]
  simp only[bne_self_eq_false,Y0,if_false]
  rw[em]
  exact TV h
theorem wK {l:Addr}{vs:IF}{κ:Xv}{o:Nat->Nat->Bool}{p:IP}{Q:Ix}(hl:s.heap.IsList l vs.toArray)(hz:vs.length<=5000)(h2:2<=vs.length)(hpl:p.length=vs.length)
  (hk:∀ h':Vv,(∀ b o,s.heap.get? b=some o->h'.get? b=some o)->∀ Q:Xv->TF->Prop,Q κ { s with heap:=h' }->Ug (Up prog w) A.in1.in1 (keyKind' vs.toArray) Q E { s with heap:=h' })
  (hO:∀ h':Vv,(∀ b o,s.heap.get? b=some o->h'.get? b=some o)->∀ i j,i < vs.length->j < vs.length->∀ C:Bool->TF->Prop,C (o i j) { s with heap:=h' }->Ug (Up prog w) A.in1.in1 (keyLt' κ (vs.getD i U0) (vs.getD j U0)) C (fun _ _=>False) { s with heap:=h' })
  (he:(((mq o vs.length).run ⟨Ui vs.length,#[],7⟩).map fun r=>r.2.a)=some p)
  (h:Q (.ref (s.heap.objs.size+1)) { s with heap:=sortedAll s.heap vs (p.map fun i=>vs.getD i U0).toArray }) :
  Ug (Up prog w) A (call (.builtin "sorted") [.ref l]) Q E s:=by
 refine Z6 kind_sorted plain_sorted entry_sorted (args_sorted1 _) ?_
 unfold Builtin.«sorted»
 refine Tv (m:=checkCount "sorted" 1 1 _) (TV ?_)
 refine Tv (collect_list hl ?_ (by rw[Wv];lia))
 refine Tv (aag ?_ (by rw[Wv];lia))
 have hsz:((s.heap.push (VJ "list" #[] 0)).update s.heap.objs.size (Vh (·++vs.toArray))).objs.size=s.heap.objs.size+1:=by
  rw[Wy,aav]
 have hoL:(((s.heap.push (VJ "list" #[] 0)).update s.heap.objs.size (Vh (·++vs.toArray))).push (VJ "list" vs.toArray 0)).get? (s.heap.objs.size+1)=some (VJ "list" vs.toArray 0):=by
  rw[← hsz];exact Ub _ U
 have keep:∀ b o,s.heap.get? b=some o->(((s.heap.push (VJ "list" #[] 0)).update s.heap.objs.size (Vh (·++vs.toArray))).push (VJ "list" vs.toArray 0)).get? b=some o:=fun b o q=>by
  have hlt:b < s.heap.objs.size:=Uk q
  rw[V6 _ _ _ (by rw[hsz];exact Uq (Vi hlt)),ZL _ _ _ _ (Uq hlt),V6 _ _ _ (Uq hlt)]
  exact q
 have kb:∀ h':Vv,jM (((s.heap.push (VJ "list" #[] 0)).update s.heap.objs.size (Vh (·++vs.toArray))).push (VJ "list" vs.toArray 0)) h' (s.heap.objs.size+1)->∀ b o,s.heap.get? b=some o->h'.get? b=some o:=fun h' k b o q =>
  k b o (Uq (Vi (Uk q))) (keep b o q)
 show Ug _ _ _ _ _ { s with heap:=((s.heap.push (VJ "list" #[] 0)).update s.heap.objs.size (Vh (·++vs.toArray))).push (VJ "list" vs.toArray 0) }
 rw[hsz]
 refine Tv (V5 (Vu slot_list_sort ⟨_,hoL,U⟩ ab2 (qP (s:={ s with heap:=((s.heap.push (VJ "list" #[] 0)).update s.heap.objs.size (Vh (·++vs.toArray))).push (VJ "list" vs.toArray 0) }) hoL hz h2 hpl (fun h' k=>hk h' (kb h' k)) (fun h' k=>hO h' (kb h' k)) he ⟨_,U,?_⟩) (args_list_sort _)))
 exact TV ⟨_,U,h⟩
def oJ (h:Vv)(p:Addr)(ns:IN):Prop:=∃ (t:Tok) (l:Addr) (its:IF),h.IsTuple p #[.int (ns.length:Int) t,.ref l]/\h.IsList l its.toArray/\Vn its ns
theorem oJ.keep {h h':Vv}{p:Addr}{ns:IN}(x:oJ h p ns)(k:∀ b o,h.get? b=some o->h'.get? b=some o):oJ h' p ns:=by
 obtain⟨t,l,its,⟨o1,e1,r1⟩,⟨o2,e2,r2⟩,i⟩:=x
 exact⟨t,l,its,⟨o1,k _ _ e1,r1⟩,⟨o2,k _ _ e2,r2⟩,i⟩
def xM (a b:IN):Bool:=if a.length=b.length then HT.lexLt a b else decide (a.length < b.length)
theorem JL {l b:Addr}{its its2:IF}{ns ms:IN}{Q:Bool->TF->Prop}(hl:s.heap.IsList l its.toArray)(hb:s.heap.IsList b its2.toArray)(i1:Vn its ns)(i2:Vn its2 ms)(hsz:ns.length=ms.length)(hu:A.units < cLine)(h:Q (decide (ns=ms)) s):Ug (Up prog w) A (eqBool (.ref l) (.ref b)) Q E s:=by
 have s1:its.toArray.size=ns.length:=by rw[Ue];exact i1.length
 have s2:its2.toArray.size=ms.length:=by rw[Ue];exact i2.length
 have e:=lZ ns ms
 by_cases hne:l=b
 ·subst hne
  obtain⟨o1,e1,c1,n1,d1⟩:=hl
  obtain⟨o2,e2,c2,n2,d2⟩:=hb
  rw[e1] at e2
  cases e2
  rw[d1] at d2
  have ei:its=its2:=by injection d2 with d2;simpa using d2
  subst ei
  have en:ns=ms:=by rw[← i1.numsOf,← i2.numsOf]
  rw[decide_eq_true en] at h
  exact SeqAt.EqAt.same _ prog w E _ h
 ·have r:=SeqAt.RcAt.lists (A:=A) (e:=fun j=>ns.getD j 0 == ms.getD j 0) hl hb (by rw[s1,s2];exact hsz) hu fun j h1 h2=>by
   obtain⟨t,e1⟩:=ints_get i1 (j:=j) (by simpa using h1)
   obtain⟨t',e2⟩:=ints_get i2 (j:=j) (by simpa using h2)
   rw[Xy,Xy,e1,e2]
   exact Z0 _ _ _ _
  rw[← hsz,Nat.min_self,beq_self_eq_true,Bool.and_true] at e
  rw[s1,e] at r
  exact SeqAt.EqAt.of_refs hne r prog w E _ h
theorem iM:∀ ns:IN,HT.lexLt ns ns=false
 | []=>rfl
 | a::r=>by rw[HT.fU,if_pos U];exact iM r
theorem J0 {p q : Addr}{ns ms : IN}{C : Bool → TF → Prop}(hp : oJ s.heap p ns)(hq : oJ s.heap q ms)(hu : A.units < cLine)(h : C (xM ns ms) s) : Ug (Up prog w) A (keyLt' (tuples' true) (.ref p) (.ref q)) C E s := by
  obtain ⟨t1, l1, i1, ⟨o1, e1, c1, n1, d1⟩, hl1, a1⟩ := hp
  obtain ⟨t2, l2, i2, ⟨o2, e2, c2, n2, d2⟩, hl2, a2⟩ := hq
  refine kat_lt e1 d1 e2 d2 ?_
  show KatLex prog w A true _ C [(.int (ns.length : Int) t1, .int (ms.length : Int) t2), (.ref l1, .ref l2)] 0 s
  unfold xM at h
  refine kat_cons (aao (kat_go (fun e => kat_yes ?_) fun e => kat_no ?_))
  · have el : ns.length = ms.length := by have : (ns.length : Int) = ms.length := by simpa using e
                                          lia
    rw [if_pos el] at h
    refine kat_cons (JL hl1 hl2 a1 a2 el hu ?_)
    refine kat_go (fun e => kat_yes ?_) fun e => kat_no ?_
    · have e' : ns = ms := by simpa using e
      subst e'
      rw [iM] at h
      exact h
    · exact kat_one _ _ (Jq hl1 hl2 (by simpa using a1) (by simpa using a2) el hu (show PySem.W.BoolBack C (.bool _) s from h))
  · have el : ¬ ns.length = ms.length := fun z => by rw [z] at e;simp at e
    rw [if_neg el] at h
    refine oneLt_int ?_
    have : decide ((ns.length : Int) < (ms.length : Int)) = decide (ns.length < ms.length) := by
      by_cases z : ns.length < ms.length
      · rw [decide_eq_true z, decide_eq_true (by lia)]
      · rw [decide_eq_false z, decide_eq_false (by lia)]
    rw [this]
    exact h
theorem kat_pairs:∀ {ps:HL},(∀ p∈ps,oJ s.heap p.1 p.2)->∃ fs:IF,fs.length=ps.length/\KatTups s.heap (ps.map fun p=>U5 p.1) fs/\∀ v∈fs,∃ (n:Int) (t:Tok),v = .int n t
 | [],_=>⟨[],U,KatTups.nil,by simp⟩
 | p::ps,h=>by
  obtain⟨fs,e,k,z⟩:=kat_pairs (ps:=ps) fun q hq=>h q (TX _ hq)
  obtain⟨t,l,its,⟨o,ho,hc,n,hd⟩,_⟩:=h p TY
  refine⟨.int (p.2.length:Int) t::fs,by simp [e],KatTups.cons ho hc hd (by simp) k,fun v hv=>?_⟩
  rcases List.mem_cons.mp hv with rfl | hv
  ·exact⟨_,_,U⟩
  ·exact z v hv
theorem CV {M:Model}{ps:HL}{Q:Xv->TF->Prop}(h0:0 < ps.length)(ht:∀ p∈ps,oJ s.heap p.1 p.2)(h:Q (tuples' true) s):Ug M A (keyKind' (ps.map fun p=>U5 p.1).toArray) Q E s:=by
 obtain⟨fs,e,k,z⟩:=kat_pairs ht
 refine kat_kind (T:=.type "int") k (by lia) (fun v hv=>?_) (by rfl) ?_
 ·obtain⟨n,t,rfl⟩:=z v hv
  exact Looks.of_pure U
 ·exact h
end
section
variable {X:Cx}{k:Nat}
inductive Ks (K:UT)(xs:List V)(H:Hp)(Q:VK):Prop where
 | mk (p:Addr) (ps:HL) (o:Nat->Nat->Bool) (pm:IP) (_:xs=[.ref p]) (_:SqL K H p (ps.map fun p=>V.ref p.1)) (_:2<=ps.length) (_:ps.length<=5000) (_:(∀ q∈ps,∃ l:Addr,SqT K H q.1 [.int (q.2.length:Int),.ref l]/\SqL K H l (q.2.map V.int))) (_:(∀ i j a b,ps[i]? = some a->ps[j]? = some b->o i j=xM a.2 b.2)) (_:pm.length=ps.length) (_:(∀ i∈pm,i < ps.length)) (_:(((mq o ps.length).run ⟨Ui ps.length,#[],7⟩).map fun r=>r.2.a)=some pm) (_:∀ l,H l=none->Q (.ref l) (upd H l (.lst (pm.map fun i=>V.ref (ps.getD i (0,[])).1))))
theorem zL {ps:HL}:∀ pm:IP,(∀ i∈pm,i < ps.length)->Vals (pm.map fun i=>V.ref (ps.getD i (0,[])).1) (pm.map fun i=>(ps.map fun p=>U5 p.1).getD i U0)
 | [],_=>.nil
 | i::pm,h=>by
  have hi:=h i TY
  refine .cons ?_ (zL pm fun j hj=>h j (TX _ hj))
  show (ps.map fun p=>U5 p.1).getD i U0 = .ref (ps.getD i (0,[])).1
  simp [hi]
theorem Ck (hr:rm k X.A):iT X (.builtin "sorted") (Ks X.K):=by
 intro ZY s σ H xs us Q I r h
 obtain⟨p,ps,o,pm,rfl,hq,h2,hz,ht,ho,hpm,hlt,he,q⟩:=h
 obtain⟨u,rfl,ru⟩:=vals1 r
 cases ru
 obtain⟨its,rv,pl,_⟩:=I.list hq
 have ei:=zG ps its rv
 subst ei
 have lv:(ps.map fun p=>U5 p.1).length=ps.length:=by simp
 have pr:∀ p∈ps,oJ s.heap p.1 p.2:=fun p hm=>by
  obtain⟨l,x1,x2⟩:=ht p hm
  obtain⟨i1,r1,p1,_⟩:=I.tuple x1
  obtain⟨i2,r2,p2,_⟩:=I.list x2
  cases r1 with
  | cons ra r1 =>
   cases r1 with
   | cons rb r1 =>
    cases r1
    obtain⟨t,rfl⟩:=ra
    cases rb
    exact⟨t,l,i2,p1,p2.isList,intsAre_of r2⟩
 have hu:X.A.in1.in1.units < cLine:=by
  have:=hr.un
  show X.A.units+1+1 < _
  lia
 refine wK (o:=o) (p:=pm) (κ:=tuples' true) pl.isList (by lia) (by lia) (by lia) (fun h' kp Q' hQ=>CV (by lia) (fun p hm=>(pr p hm).keep kp) hQ) (fun h' kp i j hi hj C hC=>?_) (by rw[lv];exact he) ?_
 ·have hi':i < ps.length:=by lia
  have hj':j < ps.length:=by lia
  rw[show (ps.map fun p=>U5 p.1).getD i U0 = .ref ps[i].1 by simp [hi'],show (ps.map fun p=>U5 p.1).getD j U0 = .ref ps[j].1 by simp [hj']]
  refine J0 ((pr ps[i] (VD hi')).keep kp) ((pr ps[j] (VD hj')).keep kp) hu ?_
  rw[← ho i j _ _ (TJ hi') (TJ hj')]
  exact hC
 ·obtain⟨e,he⟩:=sortedAll_at s.heap (ps.map fun p=>U5 p.1) (pm.map fun i=>(ps.map fun p=>U5 p.1).getD i U0).toArray
  have hml:(pm.map fun i=>V.ref (ps.getD i (0,[])).1).length<=sizeLine:=by
   rw[Tw,Wv]
   lia
  exact⟨.ref _,_,I.JK U U (fun _ _=>sortedAll_old) (WT _) (zL pm hlt) hml he,U,q _ (I.hok.fresh (WT _))⟩
end
end L2
namespace L2
open PySem PySem.Spec PyProof.Rows
structure O2 (z p q i1 i2 i3 l1 l2 l3:Addr):Prop where
 pz:p≠z
 qz:q≠z
 az:i1≠z
 bz:i2≠z
 cz:i3≠z
 pq:p≠q
 pa:p≠i1
 pb:p≠i2
 pc:p≠i3
 qa:q≠i1
 qb:q≠i2
 qc:q≠i3
 ab:i1≠i2
 ac:i1≠i3
 bc:i2≠i3
 xz:l1≠z
 yz:l2≠z
 vz:l3≠z
 xq:l1≠q
 yq:l2≠q
 vq:l3≠q
 ya:l2≠i1
 va:l3≠i1
 vb:l3≠i2
theorem JD {n c d e:Nat}(hc:c < n)(hd:d < n)(he:e < n):O2 (n+5) (n+3) (n+4) n (n+1) (n+2) c d e:=by
 constructor <;> (refine (fun (h:¬ @Eq Nat _ _)=>h) ?_) <;> lia
abbrev jA (h:Vv)(p:Addr)(a b c:Value):Prop:=h.get? p=some { cls:=.type "tuple",data:=.seq #[a,b,c] }
theorem rM (a b c:Value):checkTypeCall "zip" ⟨[a,b,c],[]⟩=pure ():=by kernel_rfl
theorem uN (a b c:Value):abM "zip.__new__" ⟨[.type "zip",a,b,c],[]⟩=pure ():=by kernel_rfl
theorem mz (a b c d:Value):Zy "object.__init__" ⟨[a,b,c,d],[]⟩:=by
 have e:=aai (id:="object.__init__") (n:=['_','_','t','i','n','i','_','_']) (o:=['t','c','e','j','b','o']) (by kernel_rfl) F.owner_object
 unfold Zy
 rw[e]
 kernel_rfl
section
variable {prog:Uy}{w:Ve}{A:Vf}{E:Ix}{s:TF}
theorem dq {T:Addr}{a b c x:Value}{k:Nat}{Q:Unit->TF->Prop}(hT:jA s.heap T a b c)
  (h:∀ h',h'.get? T=some { cls:=.type "tuple",data:=.seq ((#[a,b,c]:Array Value).setIfInBounds k x) }->WN T s.heap h'->Q () { s with heap:=h' }) :
  Ug (Up prog w) A (abH T (·.setIfInBounds k x)) Q E s:=by
 refine YK hT U (h _ ?_ (VL ..))
 rw[Vq _ hT U]
 simp [Vh]
theorem NZ {z p q i1 i2 i3 l1 l2 l3:Addr}{k:Nat}{xs ys vs:Array Value}{x y v a b c:Value}{Q:IC->TF->Prop}(D:O2 z p q i1 i2 i3 l1 l2 l3)
  (hz:Yh s.heap z p q .none) (hp:jA s.heap p (.ref i1) (.ref i2) (.ref i3)) (hq:jA s.heap q a b c) (j1:s.heap.IsListIter i1 l1 k) (j2:s.heap.IsTupleIter i2 l2 k) (j3:s.heap.IsTupleIter i3 l3 k) (t1:s.heap.IsList l1 xs) (t2:s.heap.IsTuple l2 ys) (t3:s.heap.IsTuple l3 vs)
  (hx:xs[k]? = some x) (hy:ys[k]? = some y) (hv:vs[k]? = some v)
  (hQ:∀ h',Yh h' z p q (V2 s.heap.objs.size)->jA h' q x y v->h'.IsListIter i1 l1 (k+1)->h'.IsTupleIter i2 l2 (k+1)->h'.IsTupleIter i3 l3 (k+1)->jA h' s.heap.objs.size x y v->h'.objs.size=s.heap.objs.size+1 →
   (∀ c o,c≠z->c≠q->c≠i1->c≠i2->c≠i3->s.heap.get? c=some o->h'.get? c=some o)->Q (some (.ref s.heap.objs.size)) { s with heap:=h' }):Ug (Up prog w) A (W7 (.ref z)) Q E s:=by
 have hT:s.TypeIs (.ref z) "zip":=⟨_,hz,U⟩;unfold W7
 refine Tv (W3 (Vx (name:=WM "__next__") hT Xq (Vu Xq hT aau ?_ (aaf _))))
 show Ug _ _ (aa4 (.ref z) 2 >>= _) _ _ _;refine Tv (Vr hz U (x:=.bool false) U ?_)
 show Ug _ _ (aa4 (.ref z) 3 >>= _) _ _ _;refine Tv (Vr hz U (x:=.ref p) U ?_);refine Tv (VH hp U ?_)
 show Ug _ _ (Vy (.ref z) >>= _) _ _ _;refine Tv ?_;unfold Vy
 refine Tv (Vr hz U (x:=.none) U (TV ?_));simp only[if_true];refine Tv (Xg ?_);refine Tv (Vr hz U (x:=.ref q) U ?_)
 refine Tv (V7 hz (by simp) fun h1 z1 b1=>?_);replace z1:Yh h1 z p q .ellipsis:=z1
 refine Tv ?_;simp only[Zn,aaI,Xo,XS];refine Tv (Tv (Yj ?_))
 show Ug _ _ (Vo (.ref i1) >>= _) _ _ _
 refine Tv (wpAny_nextOf_list_item (cT j1 b1 D.az) (n8 t1 b1 D.xz) hx fun h2 u1 b2=>TV ?_)
 have q2:jA h2 q a b c:=(b2.2 _ D.qa).trans ((b1.2 _ D.qz).trans hq);refine Tv (VH q2 U ?_);refine Tv (dq q2 fun h3 q3 b3=>?_)
 replace q3:jA h3 q x b c:=q3;refine Tv (X3 (TV ?_));refine Tv (Tv (Yj ?_))
 show Ug _ _ (Vo (.ref i2) >>= _) _ _ _
 refine Tv (pQ (c7 (c7 (c7 j2 b1 D.bz) b2 D.ab.symm) b3 D.qb.symm) (jw (jw (jw t2 b1 D.yz) b2 D.ya) b3 D.yq) hy fun h4 u2 b4=>TV ?_)
 have q4:jA h4 q x b c:=(b4.2 _ D.qb).trans q3;refine Tv (VH q4 U ?_);refine Tv (dq q4 fun h5 q5 b5=>?_)
 replace q5:jA h5 q x y c:=q5;refine Tv (X3 (TV ?_));refine Tv (Tv (Yj ?_))
 show Ug _ _ (Vo (.ref i3) >>= _) _ _ _
 have j35:h5.IsTupleIter i3 l3 k:=c7 (c7 (c7 (c7 (c7 j3 b1 D.cz) b2 D.ac.symm) b3 D.qc.symm) b4 D.bc.symm) b5 D.qc.symm
 have t35:h5.IsTuple l3 vs:=jw (jw (jw (jw (jw t3 b1 D.vz) b2 D.va) b3 D.vq) b4 D.vb) b5 D.vq
 refine Tv (pQ j35 t35 hv fun h6 u3 b6=>TV ?_)
 have q6:jA h6 q x y c:=(b6.2 _ D.qc).trans q5;refine Tv (VH q6 U ?_);refine Tv (dq q6 fun h7 q7 b7=>?_)
 replace q7:jA h7 q x y v:=q7;refine Tv (X3 (TV (TV ?_)));refine Tv (VH q7 U ?_);refine Tv (aaR ?_)
 have sz:h7.objs.size=s.heap.objs.size:=by rw[b7.1,b6.1,b5.1,b4.1,b3.1,b2.1,b1.1]
 have z7:Yh h7 z p q .ellipsis:=(b7.2 _ D.qz.symm).trans ((b6.2 _ D.cz.symm).trans ((b5.2 _ D.qz.symm).trans ((b4.2 _ D.bz.symm).trans ((b3.2 _ D.qz.symm).trans ((b2.2 _ D.az.symm).trans z1)))))
 have kp:∀ c o,c≠z->c≠q->c≠i1->c≠i2->c≠i3->s.heap.get? c=some o->h7.get? c=some o:=fun c o c1 c2 c3 c4 c5 e=>(b7.2 c c2).trans ((b6.2 c c5).trans ((b5.2 c c2).trans ((b4.2 c c4).trans ((b3.2 c c2).trans ((b2.2 c c3).trans ((b1.2 c c1).trans e))))))
 have u17:h7.IsListIter i1 l1 (k+1):=cT (cT (cT (cT (cT u1 b3 D.qa.symm) b4 D.ab) b5 D.qa.symm) b6 D.ac) b7 D.qa.symm
 have u27:h7.IsTupleIter i2 l2 (k+1):=c7 (c7 (c7 u2 b5 D.qb.symm) b6 D.bc) b7 D.qb.symm
 have u37:h7.IsTupleIter i3 l3 (k+1):=c7 u3 b7 D.qc.symm
 have zl:z < h7.objs.size:=Uk z7
 show Ug _ _ (Xc (.ref z) (.ref h7.objs.size) >>= _) _ _ _;refine Tv ?_;unfold Xc
 have z8:Yh (h7.push { cls:=.type "tuple",data:=.seq #[x,y,v] }) z p q .ellipsis:=Tz _ z7
 refine Tv (V7 z8 (by simp) fun h9 z9 b9=>?_);replace z9:Yh h9 z p q (V2 h7.objs.size):=z9
 refine V7 z9 (by simp) fun h10 z10 b10=>?_;replace z10:Yh h10 z p q (V2 h7.objs.size):=z10
 have up:∀ c o,c≠z->h7.get? c=some o->h10.get? c=some o:=fun c o c1 e=>(b10.2 c c1).trans ((b9.2 c c1).trans (Tz _ e))
 have t10:jA h10 h7.objs.size x y v:=(b10.2 _ (Wg zl)).trans ((b9.2 _ (Wg zl)).trans (Ub _ U))
 have s10:h10.objs.size=h7.objs.size+1:=by rw[b10.1,b9.1,Vt]
 rw[sz] at z10 t10 s10;refine TV ⟨_,U,?_⟩
 show Ug _ _ _ _ _ _
 rw[sz]
 exact TV (hQ h10 z10 (up _ _ D.qz q7) (by obtain⟨o,e,r⟩:=u17;exact⟨o,up _ o D.az e,r⟩) (by obtain⟨o,e,r⟩:=u27;exact⟨o,up _ o D.bz e,r⟩) (by obtain⟨o,e,r⟩:=u37;exact⟨o,up _ o D.cz e,r⟩) t10 s10 fun c o c1 c2 c3 c4 c5 e=>up c o c1 (kp c o c1 c2 c3 c4 c5 e))
theorem Nu {z p q i1 i2 i3 l1 l2 l3:Addr}{k:Nat}{xs:Array Value}{a b c:Value}{Q:Fin->TF->Prop}(hh:A.handled=none)(D:O2 z p q i1 i2 i3 l1 l2 l3)
  (hz:Yh s.heap z p q .none) (hp:jA s.heap p (.ref i1) (.ref i2) (.ref i3)) (j1:s.heap.IsListIter i1 l1 k) (t1:s.heap.IsList l1 xs)
  (hx:xs[k]? = none) (hE:∀ h' e,(∀ c o,c≠z->c≠q->c≠i1->c≠i2->c≠i3->s.heap.get? c=some o->h'.get? c=some o)->(∃ o,h'.get? e=some o/\o.cls = .type "StopIteration")->E (.ref e) { s with heap:=h' }) :
  Ug (Up prog w) A (Builtin.«zip.__next__» ⟨[.ref z],[]⟩) Q E s:=by
 show Ug _ _ (aa4 (.ref z) 2 >>= _) _ _ _;refine Tv (Vr hz U (x:=.bool false) U ?_)
 show Ug _ _ (aa4 (.ref z) 3 >>= _) _ _ _;refine Tv (Vr hz U (x:=.ref p) U ?_);refine Tv (VH hp U ?_)
 show Ug _ _ (Vy (.ref z) >>= _) _ _ _;refine Tv ?_;unfold Vy
 refine Tv (Vr hz U (x:=.none) U (TV ?_));simp only[if_true];refine Tv (Xg ?_);refine Tv (Vr hz U (x:=.ref q) U ?_)
 refine Tv (V7 hz (by simp) fun h1 z1 b1=>?_);replace z1:Yh h1 z p q .ellipsis:=z1
 refine Tv ?_;simp only[Zn,aaI,Xo,XS];refine Tv (Tv (Yj ?_))
 show Ug _ _ (Vo (.ref i1) >>= _) _ _ _
 refine Tv (wpAny_nextOf_list_end hh (cT j1 b1 D.az) (n8 t1 b1 D.xz) hx fun h2 e b2 he=>?_)
 obtain⟨oe,ho,hc⟩:=he
 have z2:Yh h2 z p q .ellipsis:=b2 _ _ D.az.symm z1
 have ez:e≠z:=fun u=>by subst u;rw[z2] at ho;cases ho;simp at hc
 exact V7 z2 (by simp) fun h3 _ b3=>hE h3 e (fun c o c1 _ c3 _ _ u=>(b3.2 c c1).trans (b2 _ _ c3 ((b1.2 c c1).trans u))) ⟨oe,(b3.2 e ez).trans ho,hc⟩
theorem PX {z p q i1 i2 i3 l1 l2 l3:Addr}{k:Nat}{xs:Array Value}{Q:IC->TF->Prop}(hh:A.handled=none)(D:O2 z p q i1 i2 i3 l1 l2 l3)
  (hz:Yh s.heap z p q .none) (hp:jA s.heap p (.ref i1) (.ref i2) (.ref i3)) (j1:s.heap.IsListIter i1 l1 k) (t1:s.heap.IsList l1 xs)
  (hx:xs[k]? = none) (hQ:∀ h',(∀ c o,c≠z->c≠q->c≠i1->c≠i2->c≠i3->s.heap.get? c=some o->h'.get? c=some o)->Q none { s with heap:=h' }):Ug (Up prog w) A (W7 (.ref z)) Q E s:=by
 have hT:s.TypeIs (.ref z) "zip":=⟨_,hz,U⟩;unfold W7
 refine Tv (W3 (Vx (name:=WM "__next__") hT Xq (Vu Xq hT aau (Nu (a:=.none) (b:=.none) (c:=.none) hh D hz hp j1 t1 hx fun h' e kp he=>?_) (aaf _))))
 obtain⟨o,ho,hc⟩:=he
 exact Tv (XJ (T:="StopIteration") (b:=true) ⟨o,ho,hc⟩ ZX (TV (hQ _ kp)))
abbrev t3A (h:Vv)(l:Addr):Vv:=h.push { cls:=.type "list_iterator",data:=.fields #[.ref l,.int 0 0] }
abbrev t3B (h:Vv)(l t:Addr):Vv:=zA (t3A h l) t
abbrev t3C (h:Vv)(l t u:Addr):Vv:=zA (t3B h l t) u
abbrev t3D (h:Vv)(l t u:Addr):Vv:=(t3C h l t u).push { cls:=.type "tuple",data:=.seq #[.ref h.objs.size,.ref (t3A h l).objs.size,.ref (t3B h l t).objs.size] }
abbrev t3E (h:Vv)(l t u:Addr):Vv:=(t3D h l t u).push { cls:=.type "tuple",data:=.seq #[.none,.none,.none] }
abbrev t3F (h:Vv)(l t u:Addr):Vv:=(t3E h l t u).push { cls:=.type "zip",data:=.fields #[.none,.bool false,.bool false,.ref (t3C h l t u).objs.size,.ref (t3D h l t u).objs.size] }
theorem Qz (l1 l2 l3:Addr)(xs ys vs:Array Value) :
  abw (Builtin.«zip.__new__» ⟨[.type "zip",.ref l1,.ref l2,.ref l3],[]⟩) (fun _ R s=>s.heap.IsList l1 xs/\s.heap.IsTuple l2 ys/\s.heap.IsTuple l3 vs/\R (.ok (.ret (.ref (t3E s.heap l1 l2 l3).objs.size))) { s with heap:=t3F s.heap l1 l2 l3 }) :=
 .of_wp fun prog w A R s h=>by
  obtain⟨hp,g,d,tk,os⟩:=s;obtain⟨a1,a2,a3,h⟩:=h;have hsub:=sub_zip
  have T1:Heap.IsList (aab ⟨hp,g,d,tk,os⟩) l1 xs:=a1
  have T2:abD (aab ⟨hp.push { cls:=.type "list_iterator",data:=.fields #[.ref l1,.int 0 0] },g,d,tk,os⟩) l2 ys:=by
   obtain⟨o,e,r⟩:=a2
   exact⟨o,Tz _ e,r⟩
  have T3:abD (aab ⟨(hp.push { cls:=.type "list_iterator",data:=.fields #[.ref l1,.int 0 0] }).push { cls:=.type "tuple_iterator",data:=.fields #[.ref l2,.int 0 0] },g,d,tk,os⟩) l3 vs:=by
   obtain⟨o,e,r⟩:=a3
   exact⟨o,Tz _ (Tz _ e),r⟩
  wp_walk using Xr T1,X4 T2,X4 T3
  exact⟨_,U,h⟩
theorem Og {l1 l2 l3:Addr}{xs ys vs:Array Value}{Q:Ix}(t1:s.heap.IsList l1 xs)(t2:s.heap.IsTuple l2 ys)(t3:s.heap.IsTuple l3 vs)
  (h:∀ h',Yh h' (s.heap.objs.size+5) (s.heap.objs.size+3) (s.heap.objs.size+4) .none->jA h' (s.heap.objs.size+3) (.ref s.heap.objs.size) (.ref (s.heap.objs.size+1)) (.ref (s.heap.objs.size+2))->jA h' (s.heap.objs.size+4) .none .none .none →
   h'.IsListIter s.heap.objs.size l1 0->h'.IsTupleIter (s.heap.objs.size+1) l2 0->h'.IsTupleIter (s.heap.objs.size+2) l3 0->(∀ c o,s.heap.get? c=some o->h'.get? c=some o)->Q (.ref (s.heap.objs.size+5)) { s with heap:=h' }) :
  Ug (Up prog w) A (call (.type "zip") [.ref l1,.ref l2,.ref l3]) Q E s:=by
 refine abp F.called_zip (by decide) (rM _ _ _) (uN _ _ _) (fun obj=>mz obj _ _ _) F.entry_zip_new (Qz l1 l2 l3 xs ys vs) ⟨t1,t2,t3,?_⟩
 have y1:(t3A s.heap l1).objs.size=s.heap.objs.size+1:=Vt ..
 have y2:(t3B s.heap l1 l2).objs.size=s.heap.objs.size+2:=by rw[Vt,y1]
 have y3:(t3C s.heap l1 l2 l3).objs.size=s.heap.objs.size+3:=by rw[Vt,y2]
 have y4:(t3D s.heap l1 l2 l3).objs.size=s.heap.objs.size+4:=by rw[Vt,y3]
 have y5:(t3E s.heap l1 l2 l3).objs.size=s.heap.objs.size+5:=by rw[Vt,y4]
 have w6:(t3F s.heap l1 l2 l3).get? (t3E s.heap l1 l2 l3).objs.size=some _:=Ub _ U
 have w5:(t3F s.heap l1 l2 l3).get? (t3D s.heap l1 l2 l3).objs.size=some _:=Tz _ (Ub _ U)
 have w4:(t3F s.heap l1 l2 l3).get? (t3C s.heap l1 l2 l3).objs.size=some _:=Tz _ (Tz _ (Ub _ U))
 have w3:(t3F s.heap l1 l2 l3).get? (t3B s.heap l1 l2).objs.size=some _:=Tz _ (Tz _ (Tz _ (Ub _ U)))
 have w2:(t3F s.heap l1 l2 l3).get? (t3A s.heap l1).objs.size=some _:=Tz _ (Tz _ (Tz _ (Tz _ (Ub _ U))))
 have w1:(t3F s.heap l1 l2 l3).get? s.heap.objs.size=some _:=Tz _ (Tz _ (Tz _ (Tz _ (Tz _ (Ub _ U)))))
 show _/\_
 rw[y3,y4,y5] at w6;rw[y4] at w5;rw[y1,y2,y3] at w4;rw[y2] at w3;rw[y1] at w2;rw[y5]
 exact⟨⟨_,w6,U⟩,h _ w6 w4 w5 ⟨_,w1,U,U⟩ ⟨_,w2,U,U⟩ ⟨_,w3,U,U⟩ fun c o u=>Tz _ (Tz _ (Tz _ (Tz _ (Tz _ (Tz _ u)))))⟩
end
def It3 (K : UT)(a b c : Addr) : It :=
  ⟨fun i H => ∃ xs ys vs x y v, SqL K H a xs ∧ SqT K H b ys ∧ SqT K H c vs ∧ xs[i]? = some x ∧ ys[i]? = some y ∧ vs[i]? = some v,
   fun i H w H' => ∃ p x y v, H p = none ∧ w = .ref p ∧ (∀ xs, SqL K H a xs → xs[i]? = some x) ∧ (∀ ys, SqT K H b ys → ys[i]? = some y) ∧ (∀ vs, SqT K H c vs → vs[i]? = some v) ∧ H' = upd H p (.tup [x, y, v]),
   fun i H => ∃ xs, SqL K H a xs ∧ xs.length ≤ i⟩
def tn3 (z p q i1 i2 i3 a b c:Addr)(i:Nat)(h:Vv):Prop:=Yh h z p q .none/\jA h p (.ref i1) (.ref i2) (.ref i3)/\(∃ u v w,jA h q u v w)/\h.IsListIter i1 a i/\h.IsTupleIter i2 b i/\h.IsTupleIter i3 c i
theorem Mq {P:Uy}{w:Ve}{K:UT}{elts:IJ}{x1}{pos:YM}{z p q i1 i2 i3 a b c:Addr}(D:O2 z p q i1 i2 i3 a b c) :
  Turn P w K (.Tuple elts x1 pos) (It3 K a b c) [z,p,q,i1,i2,i3] z (tn3 z p q i1 i2 i3 a b c) where
 mem:=by simp
 obj:=fun i h st e he=>by
  obtain⟨hz,hp,⟨u,v,t,hq⟩,⟨o1,e1,_,d1⟩,⟨o2,e2,_,d2⟩,⟨o3,e3,_,d3⟩⟩:=st
  simp only[VG,V3,or_false] at he
  rcases he with rfl | rfl | rfl | rfl | rfl | rfl
  ·exact⟨_,hz,fun v z=>by cases z⟩
  ·exact⟨_,hp,fun v z=>by cases z⟩
  ·exact⟨_,hq,fun v z=>by cases z⟩
  ·exact⟨_,e1,fun v z=>by rw[d1] at z;cases z⟩
  ·exact⟨_,e2,fun v z=>by rw[d2] at z;cases z⟩
  ·exact⟨_,e3,fun v z=>by rw[d3] at z;cases z⟩
 keep:=fun i h h' st k=>by
  obtain⟨hz,hp,⟨u,v,t,hq⟩,⟨o1,e1,r1⟩,⟨o2,e2,r2⟩,⟨o3,e3,r3⟩⟩:=st
  exact⟨k z (by simp) _ hz,k p (by simp) _ hp,⟨u,v,t,k q (by simp) _ hq⟩,⟨o1,k i1 (by simp) _ e1,r1⟩,⟨o2,k i2 (by simp) _ e2,r2⟩,⟨o3,k i3 (by simp) _ e3,r3⟩⟩
 item:=by
  intro X hP hw hK hc i ZY s σ H E I hf st hg
  subst hP hw hK
  obtain⟨xs,ys,vs,x,y,v,hx,hy,hv,ex,ey,ev⟩:=hg
  obtain⟨hz,hp,⟨u1,u2,u3,hq⟩,j1,j2,j3⟩:=st
  obtain⟨its,rv,tp,_⟩:=I.list hx
  obtain⟨its2,rv2,tp2,_⟩:=I.tuple hy
  obtain⟨its3,rv3,tp3,_⟩:=I.tuple hv
  obtain⟨xu,hxu,rx⟩:=rv.get ex
  obtain⟨yu,hyu,ry⟩:=rv2.get ey
  obtain⟨vu,hvu,rw3⟩:=rv3.get ev
  refine NZ D hz hp hq j1 j2 j3 (show s.heap.IsList a its.toArray from tp.isList) (show s.heap.IsTuple b its2.toArray from tp2) (show s.heap.IsTuple c its3.toArray from tp3) (x:=xu) (y:=yu) (v:=vu) (by simpa using hxu) (by simpa using hyu) (by simpa using hvu) fun h' z' q' w1 w2 w3 t' _ kp=>⟨_,U,?_⟩
  refine wpAny_letOwnedTupleGo_zip z' fun h2 z2 b2=>?_
  have lt:∀ {c o},s.heap.get? c=some o->c < s.heap.objs.size:=fun e=>Uk e
  have zne:s.heap.objs.size≠z:=Wg (lt hz)
  have hfr:H s.heap.objs.size=none:=I.fresh
  have I1:Inv X ZY σ (upd H s.heap.objs.size (.tup [x,y,v])) { s with heap:=s.heap.push { cls:=.type "tuple",data:=.seq #[xu,yu,vu] } } :=
   I.laid (t':=s.toks) (fun _ _ e=>Tz _ e) (Ua _) ⟨by show 3<=sizeLine;decide,[xu,yu,vu],.cons rx (.cons ry (.cons rw3 .nil)),⟨_,Ub _ U,U,_,U⟩⟩
  have blt:∀ c∈[z,p,q,i1,i2,i3],c < s.heap.objs.size:=fun c hc=>by
   obtain⟨_,e1,_⟩:=j1
   obtain⟨_,e2,_⟩:=j2
   obtain⟨_,e3,_⟩:=j3
   simp only[VG,V3,or_false] at hc
   rcases hc with rfl | rfl | rfl | rfl | rfl | rfl
   ·exact lt hz
   ·exact lt hp
   ·exact lt hq
   ·exact lt e1
   ·exact lt e2
   ·exact lt e3
  have ff:∀ c∈[z,p,q,i1,i2,i3],tM X ZY (upd H s.heap.objs.size (.tup [x,y,v])) c:=fun c hc=>by
   obtain⟨f0,fr⟩:=hf c hc
   exact⟨by rw[aR (Uq (blt c hc))];exact f0,fr⟩
  have kk:∀ c o,c ∉ [z,q,i1,i2,i3]->(s.heap.push { cls:=.type "tuple",data:=.seq #[xu,yu,vu] }).get? c=some o->h2.get? c=some o:=fun c o hc e=>by
   have c1:c≠z:=fun h=>hc (by simp [h])
   refine (b2.2 c c1).trans ?_
   rcases Zw e with⟨ec,eo⟩ | e'
   ·subst ec
    subst eo
    exact t'
   ·exact kp c o c1 (fun h=>hc (by simp [h])) (fun h=>hc (by simp [h])) (fun h=>hc (by simp [h])) (fun h=>hc (by simp [h])) e'
  have I2:Inv X ZY σ (upd H s.heap.objs.size (.tup [x,y,v])) { s with heap:=h2 } :=
   Inv.jO (s:={ s with heap:=s.heap.push { cls:=.type "tuple",data:=.seq #[xu,yu,vu] } }) (h':=h2) (t':=s.toks) (ch:=[z,q,i1,i2,i3]) I1 kk fun c hc=>ff c (by
    simp only[VG] at hc ⊢
    rcases hc with h | h | h | h | h
    ·exact .inl h
    ·exact .inr (.inr (.inl h))
    ·exact .inr (.inr (.inr (.inl h)))
    ·exact .inr (.inr (.inr (.inr (.inl h))))
    ·exact .inr (.inr (.inr (.inr (.inr h)))))
  refine⟨.ref s.heap.objs.size,_,I2,U,⟨_,x,y,v,hfr,U,fun zs hzs=>?_,fun zs hzs=>?_,fun zs hzs=>?_,U⟩,⟨z2,(b2.2 _ D.pz).trans (kp _ _ D.pz D.pq D.pa D.pb D.pc hp),⟨_,_,_,(b2.2 _ D.qz).trans q'⟩,cT w1 b2 D.az,c7 w2 b2 D.bz,c7 w3 b2 D.cz⟩,fun c hc=>(ff c hc).1⟩
  ·rw[I.pC hzs hx];exact ex
  ·rw[I.iC hzs hy];exact ey
  ·rw[I.iC hzs hv];exact ev
 done:=by
  intro X hP hw hK hc i ZY s σ H E I hf st hg
  subst hP hw hK
  obtain⟨xs,hx,hend⟩:=hg
  obtain⟨hz,hp,⟨u1,u2,u3,hq⟩,j1,j2,j3⟩:=st
  obtain⟨its,rv,tp,_⟩:=I.list hx
  have l1:=rv.length
  refine PX (I.ok.hd hc) D hz hp j1 (show s.heap.IsList a its.toArray from tp.isList) (by simp;lia) fun h' kp=>⟨U,?_⟩
  exact I.jO (t':=s.toks) (ch:=[z,q,i1,i2,i3]) (fun c o hc e=>kp c o (fun h=>hc (by simp [h])) (fun h=>hc (by simp [h])) (fun h=>hc (by simp [h])) (fun h=>hc (by simp [h])) (fun h=>hc (by simp [h])) e)
   fun c hc=>hf c (by simp only[VG] at hc ⊢;rcases hc with h | h | h | h | h;exact .inl h;exact .inr (.inr (.inl h));exact .inr (.inr (.inr (.inl h)));exact .inr (.inr (.inr (.inr (.inl h))));exact .inr (.inr (.inr (.inr (.inr h)))))
 self:=fun _ _ _ _ _ st h=>aan st.1 h
def iZ3 (K:UT)(ta:TA):TI:=fun σ H R=>ta σ H fun ws H1=>∃ a b c xs ys vs,ws=[.ref a,.ref b,.ref c]/\SqL K H1 a xs/\SqT K H1 b ys/\SqT K H1 c vs/\R (It3 K a b c) H1
theorem RM {X:Cx} {elts:IJ} {x1} {tpos:YM} {a b c:Expr} {ta:TA} {p pos:YM} (hg:Gl X "zip") (hm:X.mg "zip" = none) (ha:PA X [a,b,c] ta) (hs:U9 [a,b,c] X.env=[(false,W8 a X.env),(false,W8 b X.env),(false,W8 c X.env)]:=by rfl) (hs2:U9 [b,c] X.env=[(false,W8 b X.env),(false,W8 c X.env)]:=by rfl) :
  PI X (.Tuple elts x1 tpos) (.Call (.Name "zip" p) [a,b,c] [] pos) (iZ3 X.K ta):=by
 intro ZY s σ H R I h
 refine Call_ (jx I hg hm boot_zip (V1 (thn (ha pos ZY s σ H _ I h) fun us s1 ⟨vs,H1,I1,r1,q1⟩=>?_) (by rw[hs,hs2]) (by rw[hs2];rfl)))
 obtain⟨d1,d2,d3,xs,ys,ws,e,hx,hy,hv,q⟩:=q1
 subst e
 cases r1 with
 | cons ru1 r1 =>
 cases r1 with
 | cons ru2 r1 =>
 cases r1 with
 | cons ru3 r1 =>
 cases r1
 cases ru1
 cases ru2
 cases ru3
 obtain⟨its,_,tp,_⟩:=I1.list hx
 obtain⟨its2,_,tp2,_⟩:=I1.tuple hy
 obtain⟨its3,_,tp3,_⟩:=I1.tuple hv
 refine Og (show s1.heap.IsList d1 its.toArray from tp.isList) (show s1.heap.IsTuple d2 its2.toArray from tp2) (show s1.heap.IsTuple d3 its3.toArray from tp3) fun h' z' p' q' j1 j2 j3 kp=>?_
 have lc:d1 < s1.heap.objs.size:=by obtain⟨o,e,_⟩:=tp.isList;exact Uk e
 have ld:d2 < s1.heap.objs.size:=by obtain⟨o,e,_⟩:=tp2;exact Uk e
 have le:d3 < s1.heap.objs.size:=by obtain⟨o,e,_⟩:=tp3;exact Uk e
 have D:O2 (s1.heap.objs.size+5) (s1.heap.objs.size+3) (s1.heap.objs.size+4) s1.heap.objs.size (s1.heap.objs.size+1) (s1.heap.objs.size+2) d1 d2 d3:=JD lc ld le
 refine aan z' ⟨_,_,_,_,H1,U,I1.kept (t':=s1.toks) kp,Mq D,⟨z',p',⟨_,_,_,q'⟩,j1,j2,j3⟩,fun e he=>?_,q⟩
 have hle:s1.heap.objs.size<=e:=by
  simp only[VG,V3,or_false] at he
  rcases he with rfl | rfl | rfl | rfl | rfl | rfl <;> lia
 exact I1.Im hle (I1.hok.fresh hle)
theorem Ou {K:UT}{a b c D:Addr}{xs ys vs:List V}{g:TG}{tt:TT}{te:TE}{H1:Hp}{Q:Hp->Prop}{σ0:St}(hlen:xs.length=ys.length)(hlen2:xs.length=vs.length)(Pv:Nat->List V->St->Hp->Prop)(h0:Pv 0 [] σ0 (upd H1 D (.lst [])))
  (hl:∀ i zs σ H,i<=xs.length->Pv i zs σ H->SqL K H a xs/\SqT K H b ys/\SqT K H c vs/\H D=some (.lst zs))
  (hs:∀ i zs x y v p σ H,xs[i]? = some x->ys[i]? = some y->vs[i]? = some v->H p=none->Pv i zs σ H->g (.ref p) σ (upd H p (.tup [x,y,v])) fun σ3 H3=>tt σ3 H3 fun c H4=>if c=true then te σ3 H4 fun v H5=>H5 D=some (.lst zs)/\zs.length < sizeLine/\Pv (i+1) (zs++[v]) σ3 (upd H5 D (.lst (zs++[v]))) else Pv (i+1) zs σ3 H4)
  (hd:∀ zs σ H,Pv xs.length zs σ H->Q H):iw D σ0 (It3 K a b c) g tt te H1 Q:=by
 refine⟨fun i m zs σ H=>m=xs.length - i/\i<=xs.length/\Pv i zs σ H,⟨xs.length,by simp,Uw _,h0⟩,?_⟩
 rintro i m zs σ H ⟨rfl,hi,p⟩
 obtain⟨q1,q2,q3,qD⟩:=hl i zs σ H hi p
 refine⟨qD,?_⟩
 by_cases hlt:i < xs.length
 ·have hlt2:i < ys.length:=by lia
  have hlt3:i < vs.length:=by lia
  refine .inr ⟨⟨xs,ys,vs,xs[i],ys[i],vs[i],q1,q2,q3,by simp [hlt],by simp [hlt2],by simp [hlt3]⟩,Pv (i+1),fun zs' σ' H' p'=>⟨xs.length - (i+1),by lia,U,hlt,p'⟩,fun v H' y=>?_⟩
  obtain⟨pp,x,y,v,hp,rfl,hx,hy,hv,rfl⟩:=y
  exact hs i zs x y v pp σ _ (hx xs q1) (hy ys q2) (hv vs q3) hp p
 ·have e:i=xs.length:=by lia
  subst e
  exact .inl ⟨⟨xs,q1,Ua _⟩,hd zs σ H p⟩
section
variable {X:Cx}
def GC (K:UT):R2:=fun x y H Q=>JH K x y H Q∨∃ (a:Addr) (ns:IN),x = .ref a/\y = .non/\SqT K H a (ns.map V.int)/\Q (.bl true) H
theorem J3 (hu:X.A.units < cLine):OpR X (Wl .NotEq) (GC X.K):=by
 intro ZY s σ H x y v u Q I rx ry h
 rcases h with h | ⟨a,ns,rfl,rfl,ha,q⟩
 ·exact ym hu ZY s σ H x y v u Q I rx ry h
 ·cases rx
  cases ry
  obtain⟨its,r1,p1,_⟩:=I.tuple ha
  exact SeqAt.RcNeAt.tuple_none (show s.heap.IsTuple a its.toArray from p1) hu X.prog X.w X.xe _ ⟨.bl true,H,I,U,q⟩
end
section
variable {κ:Type}[DecidableEq κ]
def j8 (kvs:List (κ × V))(k:κ):Option V:=(kvs.find? fun kv=>decide (kv.1=k)).map (·.2)
def putK (kvs:List (κ × V))(k:κ)(v:V):List (κ × V) :=
 if (kvs.any fun kv=>decide (kv.1=k))=true then kvs.map (fun kv=>if kv.1=k then (kv.1,v) else kv) else kvs++[(k,v)]
theorem IV {k:κ}:j8 ([]:List (κ × V)) k=none:=rfl
theorem dM {p:κ × V}{r:List (κ × V)}{k:κ}(e:p.1=k):j8 (p::r) k=some p.2:=by simp [j8,Xp,e]
theorem di {p:κ × V}{r:List (κ × V)}{k:κ}(e:¬ p.1=k):j8 (p::r) k=j8 r k:=by simp [j8,Xp,e]
theorem mR (k:κ):∀ kvs:List (κ × V),(kvs.any fun kv=>decide (kv.1=k))=(j8 kvs k).isSome
 | []=>rfl
 | p::r=>by
  rw[Yl]
  by_cases e:p.1=k
  ·simp only[dM e,decide_eq_true e,Bool.true_or,Option.isSome_some]
  ·rw[di e,decide_eq_false e,aa7];exact mR k r
theorem Bh (k j:κ)(y:V):∀ kvs:List (κ × V),j8 (kvs.map fun kv=>if kv.1=k then (kv.1,y) else kv) j=(j8 kvs j).map fun x=>if j=k then y else x
 | []=>rfl
 | p::r=>by
  have ih:=Bh k j y r
  rw[U6]
  by_cases h:p.1=k
  ·rw[if_pos h]
   by_cases e:p.1=j
   ·rw[dM (p:=(p.1,y)) e,dM e,aaG,if_pos (e.symm.trans h)]
   ·rw[di (p:=(p.1,y)) e,di e,ih]
  ·rw[if_neg h]
   by_cases e:p.1=j
   ·rw[dM (p:=p) e,dM e,aaG,if_neg (fun z=>h (e.trans z))]
   ·rw[di (p:=p) e,di e,ih]
theorem wW (k j:κ)(y:V):∀ kvs:List (κ × V),j8 kvs k=none->j8 (kvs++[(k,y)]) j=if j=k then some y else j8 kvs j
 | [],_=>by
  by_cases e:k=j
  ·rw[if_pos e.symm];exact dM (p:=(k,y)) e
  ·rw[if_neg (fun z=>e z.symm)];exact di (p:=(k,y)) e
 | p::r,hn=>by
  rw[abQ]
  have hk:¬ p.1=k:=fun z=>by rw[dM z] at hn;cases hn
  rw[di hk] at hn
  have ih:=wW k j y r hn
  by_cases e:p.1=j
  ·rw[dM e,dM e,if_neg (fun z=>hk (e.trans z))]
  ·rw[di e,di e,ih]
theorem Jt (kvs:List (κ × V))(k j:κ)(y:V):j8 (putK kvs k y) j=if j=k then some y else j8 kvs j:=by
 unfold putK
 by_cases a:(kvs.any fun kv=>decide (kv.1=k))=true
 ·rw[if_pos a,Bh]
  rw[mR] at a
  by_cases e:j=k
  ·obtain⟨x,hx⟩:=Option.isSome_iff_exists.mp a
   rw[if_pos e,e,hx,aaG,if_pos U]
  ·rw[if_neg e]
   cases j8 kvs j with
   | none=>rfl
   | some x=>rw[aaG,if_neg e]
 ·rw[if_neg a]
  refine wW k j y kvs ?_
  rw[mR] at a
  cases q:j8 kvs k with
  | none=>rfl
  | some x=>rw[q] at a;exact (a U).elim
theorem lE (kvs:List (κ × V))(k:κ)(v:V):(putK kvs k v).length<=kvs.length+1:=by
 unfold putK
 split
 ·rw[Tw];lia
 ·rw[Uh,Um,List.length_nil];lia
theorem pG {kvs:List (κ × V)}{k:κ}(v:V)(h:j8 kvs k=none):putK kvs k v=kvs++[(k,v)]:=by
 unfold putK
 rw[mR,h]
 exact if_neg (by decide)
theorem HD.qT {o:Option V}{u:IC}(r:HD o u):o.isSome=u.isSome:=by
 cases o with
 | none=>cases u with
  | none=>rfl
  | some _=>exact (show False from r).elim
 | some _=>cases u with
  | none=>exact (show False from r).elim
  | some _=>rfl
theorem KV.val {kvs:List (κ × V)}{vs:List (κ × Value)}(r:KV kvs vs)(k:κ):HD (j8 kvs k) (abj vs k):=by
 unfold KV at r
 induction r with
 | nil=>exact Yr
 | @cons p q ps qs h t ih =>
  obtain⟨h1,h2⟩:=h
  by_cases e:p.1=k
  ·have e':q.1=k:=h1.symm.trans e
   have b:abj (q::qs) k=some q.2:=by simp [abj,Xp,e']
   rw[dM e,b];exact h2
  ·have e':¬ q.1=k:=fun z=>e (h1.trans z)
   have b:abj (q::qs) k=abj qs k:=by simp [abj,Xp,e']
   rw[di e,b];exact ih
theorem KV.any {kvs:List (κ × V)}{vs:List (κ × Value)}(r:KV kvs vs)(k:κ):(kvs.any fun kv=>decide (kv.1=k))=vs.any fun kv=>decide (kv.1=k):=by
 unfold KV at r
 induction r with
 | nil=>rfl
 | cons h t ih=>rw[Yl,Yl,ih,h.1]
theorem KV.repl {kvs:List (κ × V)}{vs:List (κ × Value)}(r:KV kvs vs)(k:κ){y:V}{u:Value}(ry:RelV y u) :
  KV (kvs.map fun kv=>if kv.1=k then (kv.1,y) else kv) (vs.map fun kv=>if kv.1=k then (kv.1,u) else kv):=by
 unfold KV at r ⊢
 induction r with
 | nil=>exact .nil
 | @cons p q ps qs h t ih =>
  rw[U6,U6]
  refine .cons ?_ ih
  obtain⟨h1,h2⟩:=h
  by_cases e:p.1=k
  ·rw[if_pos e,if_pos (h1.symm.trans e)];exact⟨h1,ry⟩
  ·rw[if_neg e,if_neg (fun z=>e (h1.trans z))];exact⟨h1,h2⟩
theorem KV.put {kvs:List (κ × V)}{vs:List (κ × Value)}(r:KV kvs vs)(k:κ){y:V}{u:Value}(ry:RelV y u):KV (putK kvs k y) (stored vs k u):=by
 unfold putK stored
 rw[r.any k]
 by_cases e:(vs.any fun kv=>decide (kv.1=k))=true
 ·rw[if_pos e,if_pos e];exact r.repl k ry
 ·rw[if_neg e,if_neg e];exact Paired.snoc r ⟨U,ry⟩
theorem KV.length {kvs:List (κ × V)}{vs:List (κ × Value)}(r:KV kvs vs):kvs.length=vs.length:=aa5 r
end
theorem Jv {P:Uy}{w:Ve}{k:Key}{u:Value}(r:RelV (kV k) u):(eO P w).is k u=true:=by
 cases k with
 | inl i=>obtain⟨t,e⟩:=(show ∃ t,u=XR i t from r);subst e;exact yl P w i t
 | inr x=>obtain⟨t,e⟩:=(show ∃ t,u=Value.str x t from r);subst e;exact zf P w x t
theorem wg {P:Uy}{w:Ve}:∀ {ks:List Key} {us:IF},Vals (ks.map kV) us->ItemsAre (eO P w) ks us
 | [],_,r=>by rw[ZQ] at r;cases r;exact .nil
 | k::ks,_,r=>by
  rw[U6] at r
  cases r with
  | cons h t=>exact .cons (Jv h) (wg t)
abbrev KT (H:Hp):List (List Key × V)->List (List Key × Addr × Value)->Prop:=Paired fun p q=>p.1=q.1/\H q.2.1=some (.tup (p.1.map kV))/\RelV p.2 q.2.2
theorem KT.val {H:Hp}{kvs:List (List Key × V)}{xs:List (List Key × Addr × Value)}(r:KT H kvs xs)(k:List Key):HD (j8 kvs k) ((atKey xs k).map (·.2)):=by
 induction r with
 | nil=>exact Yr
 | @cons p q ps qs h t ih =>
  obtain⟨h1,_,h2⟩:=h
  by_cases e:p.1=k
  ·have e':q.1=k:=h1.symm.trans e
   have b:atKey (q::qs) k=some q.2:=by simp [atKey,Xp,e']
   rw[dM e,b];exact h2
  ·have e':¬ q.1=k:=fun z=>e (h1.trans z)
   have b:atKey (q::qs) k=atKey qs k:=by simp [atKey,Xp,e']
   rw[di e,b];exact ih
theorem KT.repl {H:Hp}{kvs:List (List Key × V)}{xs:List (List Key × Addr × Value)}(r:KT H kvs xs)(k:List Key){y:V}{u:Value}(ry:RelV y u) :
  KT H (kvs.map fun kv=>if kv.1=k then (kv.1,y) else kv) (xs.map (putAt k u)):=by
 induction r with
 | nil=>exact .nil
 | @cons p q ps qs h t ih =>
  rw[U6,U6]
  refine .cons ?_ ih
  obtain⟨h1,h2,h3⟩:=h
  unfold putAt
  by_cases e:p.1=k
  ·rw[if_pos e,if_pos (h1.symm.trans e)];exact⟨h1,h2,ry⟩
  ·rw[if_neg e,if_neg (fun z=>e (h1.trans z))];exact⟨h1,h2,h3⟩
theorem KT.put {H:Hp}{kvs:List (List Key × V)}{xs:List (List Key × Addr × Value)}(r:KT H kvs xs)(k:List Key){b:Addr}{y:V}{u:Value}(hb:H b=some (.tup (k.map kV)))(ry:RelV y u) :
  KT H (putK kvs k y) (storedH xs k b u):=by
 have e:(kvs.any fun kv=>decide (kv.1=k))=(atKey xs k).isSome:=by
  rw[mR,(r.val k).qT,Option.isSome_map]
 unfold putK storedH
 rw[e]
 by_cases q:(atKey xs k).isSome=true
 ·rw[if_pos q,if_pos q];exact r.repl k ry
 ·rw[if_neg q,if_neg q];exact Paired.snoc r ⟨U,hb,ry⟩
theorem KT.keeps {H H':Hp}{kvs:List (List Key × V)}{xs:List (List Key × Addr × Value)}(r:KT H kvs xs)(ht:∀ b ys,H b=some (.tup ys)->H' b=some (.tup ys)):KT H' kvs xs :=
 Paired.Rq r fun _ _ z=>⟨z.1,ht _ _ z.2.1,z.2.2⟩
section
variable {P:Uy}{w:Ve}{H:Hp}{h:Vv}{a:Addr}
theorem Qa {u:HO}(ok:HOk P w H h)(e:Rd H a u):eE P w H h a u:=e.ok ok
theorem JT {kvs:List (Key × V)}(ok:HOk P w H h)(e:Rd H a (.dK kvs)):kvs.length<=sizeLine/\(a == YX)=false/\∃ vs,KV kvs vs/\h.DictOf (eO P w) a vs :=
 show eE P w H h a (.dK kvs) from Qa ok e
theorem Rz {kvs:List (Key × V)}(ok:HOk P w H h)(e:H a=some (.dK kvs)):kvs.length<=sizeLine/\(a == YX)=false/\∃ vs,KV kvs vs/\h.DictOf (eO P w) a vs:=JT ok (.inl e)
theorem wQ {ks:List Key}(ok:HOk P w H h)(e:H a=some (.tup (ks.map kV))):(abI (eO P w)).is h ks a:=by
 obtain⟨_,its,r,o,h1,h2,n,h3⟩:=(show eE P w H h a (.tup (ks.map kV)) from ok a _ e)
 exact⟨o,its.toArray,n,h1,h2,h3,by simpa using wg r⟩
theorem Jz {kvs:List (List Key × V)}(ok:HOk P w H h)(e:Rd H a (.dT kvs)):kvs.length<=sizeLine/\(a == YX)=false ∧
  ∃ xs,KT H kvs xs/\h.DictOfH (abI (eO P w)) a xs:=by
 obtain⟨z,y,xs,r,o,es,ep,h1,h2,h3,h4,h5⟩:=(show eE P w H h a (.dT kvs) from Qa ok e)
 refine⟨z,y,xs,r,o,es,ep,h1,h2,h3,h4,fun x hx=>?_,h5⟩
 have all:∀ {l:List (List Key × V)} {m:List (List Key × Addr × Value)},KT H l m->∀ x∈m,(abI (eO P w)).is h x.1 x.2.1:=by
  intro l m q
  induction q with
  | nil=>intro x hx;exact nomatch hx
  | @cons p q ps qs hq t ih =>
   intro x hx
   rcases List.mem_cons.mp hx with e | hx
   ·subst e
    exact wQ ok (by rw[← hq.1];exact hq.2.1)
   ·exact ih x hx
 exact all r x hx
theorem O7 {kvs:List (List Key × V)}(ok:HOk P w H h)(e:H a=some (.dT kvs)):kvs.length<=sizeLine/\(a == YX)=false ∧
  ∃ xs,KT H kvs xs/\h.DictOfH (abI (eO P w)) a xs:=Jz ok (.inl e)
end
def Il (H:Hp)(a:Addr)(y:V)(r:Option V):Prop :=
 (∃ kvs k,Rd H a (.dK kvs)/\y=kV k/\r=j8 kvs k)∨∃ kvs k b,Rd H a (.dT kvs)/\y = .ref b/\H b=some (.tup (k.map kV))/\r=j8 kvs k
def O3 (H:Hp)(a:Addr)(y v:V)(H':Hp):Prop :=
 (∃ kvs k,H a=some (.dK kvs)/\y=kV k/\kvs.length < sizeLine/\H'=upd H a (.dK (putK kvs k v))) ∨
 ∃ kvs k b,H a=some (.dT kvs)/\y = .ref b/\H b=some (.tup (k.map kV))/\kvs.length < sizeLine/\H'=upd H a (.dT (putK kvs k v))
theorem Il.t {H:Hp}{a b:Addr}{kvs:List (List Key × V)}{k:List Key}(e:H a=some (.dT kvs))(eb:H b=some (.tup (k.map kV))):Il H a (.ref b) (j8 kvs k):=.inr ⟨kvs,k,b,.inl e,U,eb,U⟩
theorem O3.t {H:Hp}{a b:Addr}{kvs:List (List Key × V)}{k:List Key}{v:V}(e:H a=some (.dT kvs))(eb:H b=some (.tup (k.map kV)))(hl:kvs.length < sizeLine) :
  O3 H a (.ref b) v (upd H a (.dT (putK kvs k v))):=.inr ⟨kvs,k,b,e,U,eb,hl,U⟩
section
variable {X:Cx}{ZY:Ic}{σ:St}{H:Hp}{s:TF}{a:Addr}{y v:V}{u r:Value}{o:Option V}{A:Vf}{E:Ix}
theorem Inv.big (I:Inv X ZY σ H s):YX < s.heap.objs.size:=by
 have h:U8 < s.heap.objs.size:=(I.mod.glob.keeps I.bk).lt
 exact abv (by decide) h
theorem Fp {Q:Ix}(hu:A.units+1 < cLine)(I:Inv X ZY σ H s)(g:Il H a y (some v))(ry:RelV y u)(h:∀ w' s',Inv X ZY σ H s'->RelV v w'->Q w' s') :
  Ug (Up X.prog X.w) A (aa0 (.ref a) u) Q E s:=by
 rcases g with⟨kvs,k,e,ey,l⟩ | ⟨kvs,k,b,e,ey,eb,l⟩
 ·subst ey
  obtain⟨z,hd,vs,rel,dd⟩:=JT I.hok e
  obtain⟨w',hw,rw'⟩:=HD.some_of (v:=v) (o:=abj vs k) (by rw[l];exact rel.val k)
  exact wpAny_getItem_of (Jv ry) dd.mapOf hw (h w' _ (I.tok _) rw')
 ·subst ey
  cases (show u=U5 b from ry)
  obtain⟨z,hd,xs,rel,dd⟩:=Jz I.hok e
  obtain⟨w',hw,rw'⟩:=HD.some_of (v:=v) (o:=(atKey xs k).map (·.2)) (by rw[l];exact rel.val k)
  obtain⟨p,hp,hp2⟩:=Option.map_eq_some_iff.mp hw
  refine wpAny_getItem_heap (aa8 hu) (wQ I.hok eb) dd hp ?_
  rw[hp2]
  exact h w' _ (I.tok _) rw'
theorem M6 {Q:Ix}(hu:A.units+1 < cLine)(I:Inv X ZY σ H s)(g:Il H a y o)(ry:RelV y u)(h:∀ s',Inv X ZY σ H s'->Q (.bool (!o.isSome)) s') :
  Ug (Up X.prog X.w) A (Wl .NotIn u (.ref a)) Q E s:=by
 rcases g with⟨kvs,k,e,ey,l⟩ | ⟨kvs,k,b,e,ey,eb,l⟩
 ·subst ey
  obtain⟨z,hd,vs,rel,dd⟩:=JT I.hok e
  refine wpAny_notIn_of (Jv ry) hd dd.mapOf ?_
  rw[← (rel.val k).qT,← l]
  exact h _ (I.tok _)
 ·subst ey
  cases (show u=U5 b from ry)
  obtain⟨z,hd,xs,rel,dd⟩:=Jz I.hok e
  refine wpAny_notIn_heap (aa8 hu) (wQ I.hok eb) hd dd ?_
  have q:=(rel.val k).qT
  rw[Option.isSome_map] at q
  rw[← q,← l]
  exact h _ (I.tok _)
theorem yx {h':Vv}{t':Nat}{ob:HO}(I:Inv X ZY σ H s)(mu:Mut (H a))(hs:WN a s.heap h')(he:∃ q,h'.get? a=some q)(new:eE X.prog X.w (upd H a ob) h' a ob) :
  Inv X ZY σ (upd H a ob) { s with heap:=h',toks:=t' } :=
 I.write (x:=a) (e:=a) mu (.inl U) (fun b q hb z=>(hs.2 b hb).trans z) he new
theorem Qd {P:Uy}{w:Ve}{H':Hp}{h':Vv}{kvs:List (Key × V)}{vs:List (Key × Value)}(z:kvs.length<=sizeLine)(hd:(a == YX)=false)(rel:KV kvs vs)(dd:h'.DictOf (eO P w) a vs) :
  eE P w H' h' a (.dK kvs):=⟨z,hd,vs,rel,dd⟩
theorem DQ {H':Hp}{Q:Unit->TF->Prop}(hu:A.units+1 < cLine)(I:Inv X ZY σ H s)(g:O3 H a y v H')(ry:RelV y u)(rv:RelV v r)(h:∀ s',Inv X ZY σ H' s'->Q () s') :
  Ug (Up X.prog X.w) A (setItem (.ref a) u r) Q E s:=by
 rcases g with⟨kvs,k,e,ey,l,eH⟩ | ⟨kvs,k,b,e,ey,eb,l,eH⟩
 ·subst ey eH
  obtain⟨z,hd,vs,rel,dd⟩:=Rz I.hok e
  have hz:vs.length<=sizeLine:=by rw[← rel.length];exact z
  have hl:(putK kvs k v).length<=sizeLine:=by have:=lE kvs k v;lia
  refine wpAny_setItem_pairs (hsz:=hz) (Jv ry) dd fun h' dd' hs=>h _ ?_
  have he:∃ q,h'.get? a=some q:=let ⟨q,_,_,hq,_⟩:=dd';⟨q,hq⟩
  exact yx I (by rw[e];exact Yr) hs he (Qd hl hd (rel.put k rv) dd')
 ·subst ey eH
  cases (show u=U5 b from ry)
  obtain⟨z,hd,xs,rel,dd⟩:=O7 I.hok e
  have hz:xs.length<=sizeLine:=by rw[← aa5 rel];exact z
  have hl:(putK kvs k v).length<=sizeLine:=by have:=lE kvs k v;lia
  refine wpAny_setItem_heap (hsz:=hz) (aa8 hu) (wQ I.hok eb) dd fun h' dd' hs=>h _ ?_
  obtain⟨q,es,ep,hq,h2,h3,h4,_,h5⟩:=dd'
  refine yx I (by rw[e];exact Yr) hs ⟨q,hq⟩ ⟨hl,hd,_,(rel.put k eb rv).keeps fun c ys ec=>?_,q,es,ep,hq,h2,h3,h4,h5⟩
  rw[aR (Qo ec e (fun z=>nomatch z))]
  exact ec
end
section
variable {X:Cx}{ZY:Ic}{σ:St}{H:Hp}{s:TF}{a:Addr}{kvs:List (Key × V)}{k:Key}{u:Value}{A:Vf}{E:Ix}
end
def RP (i:Expr):Prop:=∀ ov iv,abY i false ov iv=operate [ov,iv] (aa0 ov iv)
theorem OD {prog:Uy}{w:Ve}{A:Vf}{E:Ix}{s:TF}{env:Env}{value slice:Expr}{pos:YM}{T id:String}{Q:Ix}
  (hl:typeLookup (.type T) "__getitem__" = pure (some (.builtin id))) (hs:RP slice)
  (h:Ug (Up prog w) A (W8 value env) (fun o s₁=>Ug (Up prog w) A (W8 slice env) (fun i s₂=>s₂.TypeIs o T/\Ug (Up prog w) A (aa0 o i) Q E s₂) E s₁) E s) :
  Ug (Up prog w) A (W8 (.Subscript value slice pos) env) Q E s:=by
 refine Subscript_ (VB h (fun o s₁ h₁=>VB h₁ (fun i s₂ h₂=>?_) fun _ _ x=>x) fun _ _ x=>x)
 obtain⟨hT,h₂⟩:=h₂
 unfold subscriptTail
 refine Tv ?_
 rw[getitemInPython_of_ne hT.not_modules]
 refine Tv (Zx hT hl ?_)
 have fin:Ug (Up prog w) A (abY slice false o i) (fun r s₃=>Ug (Up prog w) A (letTemporaryGo value o r >>= fun _=>pure r) Q E s₃) E s₂:=by
  rw[hs o i]
  exact wpAny_operating (VB h₂ (fun r s₃ h₃=>Tv (wpAny_letTemporaryGo (TV h₃))) fun _ _ x=>x)
 first
  | exact TV (Tv fin)
  | exact Tv (TV (Tv fin))
  | exact Tv fin
theorem zN {X:Cx} {ZY:Ic} {σ:St} {H:Hp} {s:TF} {a:Addr} {y:V} {o:Option V} (I:Inv X ZY σ H s) (g:Il H a y o):s.TypeIs (.ref a) "dict":=by
 rcases g with⟨kvs,k,e,_,_⟩ | ⟨kvs,k,b,e,_,_,_⟩
 ·obtain⟨_,_,vs,_,dd⟩:=JT I.hok e
  exact dd.typeIs
 ·obtain⟨_,_,xs,_,dd⟩:=Jz I.hok e
  exact dd.typeIs
def Q7 (td ty:TE):TE:=fun σ H Q=>td σ H fun x H1=>ty σ H1 fun y H2=>∃ a v,x = .ref a/\Il H2 a y (some v)/\Q v H2
def M3 (ty td:TE):TE:=fun σ H Q=>ty σ H fun y H1=>td σ H1 fun x H2=>∃ a o,x = .ref a/\Il H2 a y o/\Q (.bl (!o.isSome)) H2
def RC (td ty tv:TE):TS:=fun D σ H=>tv σ H fun v H1=>td σ H1 fun x H2=>ty σ H2 fun y H3=>∃ a H4,x = .ref a/\O3 H3 a y v H4/\D.nx σ H4
section
variable {X:Cx}{o i e value:Expr}{pos pos' tpos:YM}{td ty tv:TE}
theorem Oo (hu:X.A.units+1 < cLine)(ho:PE X o td)(hi:PE X i ty)(hs:RP i):PE X (.Subscript o i pos) (Q7 td ty):=by
 intro ZY s σ H Q I h
 refine OD PySem.F.slot_dict_getitem.lookup hs (thn (ho ZY s σ H _ I h) fun u s1 ⟨x,H1,I1,rx,q1⟩=>thn (hi ZY s1 σ H1 _ I1 q1) fun iv s2 ⟨y,H2,I2,ry,a,v,ex,g,q2⟩=>?_)
 subst ex
 obtain rfl:u=U5 a:=rx
 exact⟨zN I2 g,Fp hu I2 g ry fun w' s3 I3 rw'=>⟨v,H2,I3,rw',q2⟩⟩
theorem xQ (hu:X.A.units+1 < cLine)(hi:PE X i ty)(ho:PE X o td):PC X .NotIn i o (M3 ty td):=by
 intro ZY s σ H Q I h
 refine thn (hi ZY s σ H _ I h) fun iv s1 ⟨y,H1,I1,ry,q1⟩=>thn (ho ZY s1 σ H1 _ I1 q1) fun u s2 ⟨x,H2,I2,rx,a,ov,ex,g,q2⟩=>?_
 subst ex
 obtain rfl:u=U5 a:=rx
 exact M6 hu I2 g ry fun s3 I3=>⟨.bl (!ov.isSome),H2,I3,U,q2⟩
theorem Ij (hu:X.A.units+1 < cLine)(ho:PE X o td)(hi:PE X i ty)(hv:PE X value tv)(hs:aap value (some (.Subscript o i pos')) pos.line X.env=pure false) :
  PS X (.Assign [.Subscript o i pos'] value pos) (RC td ty tv):=by
 intro ZY s σ H D I h
 refine wpAny_Assign_Subscript (thn (hv ZY s σ H _ I h) fun r s1 ⟨v,H1,I1,rv,q1⟩=>thn (ho ZY s1 σ H1 _ I1 q1) fun u s2 ⟨x,H2,I2,rx,q2⟩=>thn (hi ZY s2 σ H2 _ I2 q2) fun iv s3 ⟨y,H3,I3,ry,a,H4,ex,g,q3⟩=>?_) hs
 subst ex
 obtain rfl:u=U5 a:=rx
 exact DQ hu I3 g ry rv fun s4 I4=>⟨σ,H4,I4,q3⟩
end
theorem Ae {P:Uy}{w:Ve}{H:Hp}(h:Vv)(hb:YX < h.objs.size):eE P w H (h.push { cls:=.type "dict",data:=.dict #[] }) h.objs.size (.dT []) :=
 ⟨Uw _,beq_eq_false_iff_ne.mpr (Xd (Uq hb)),[],.nil,_,#[],0,Ub _ U,⟨U,U,U⟩,U,U,List.nodup_nil⟩
def Qx:TE:=fun _ H Q=>∀ p,H p=none->Q (.ref p) (upd H p (.dT []))
section
variable {X:Cx}{pos:YM}
theorem JW:PE X (.Dict [] [] pos) Qx:=fun ZY s σ H Q I h =>
 wpAny_Dict_empty ⟨.ref s.heap.objs.size,_,I.laid (a:=s.heap.objs.size) (o:=.dT []) (t':=s.toks) (fun _ _ q=>Tz _ q) (Ua _) (Ae s.heap I.big),U,h _ (I.hok.fresh (Ua _))⟩
end
def Gd:List (TE × TE)->St->Hp->(List (V × V)->Hp->Prop)->Prop
 | [],_,H,Q=>Q [] H
 | (tk,tv)::r,σ,H,Q=>tk σ H fun x H1=>tv σ H1 fun y H2=>Gd r σ H2 fun ps H3=>Q ((x,y)::ps) H3
abbrev VV:List (V × V)->List (Value × Value)->Prop:=Paired fun p q=>RelV p.1 q.1/\RelV p.2 q.2
def PPs (X:Cx)(pos:YM)(keys:HU)(values:IJ)(trs:List (TE × TE)):Prop :=
 ∀ (ZY:Ic) (s:TF) (σ:St) (H:Hp) (Q:List (V × V)->Hp->Prop),Inv X ZY σ H s->Gd trs σ H Q →
  Ug (Up X.prog X.w) X.A (evalPairs (pairTrees keys values X.env pos)) (fun vs s'=>∃ ps H',Inv X ZY σ H' s'/\VV ps vs/\Q ps H') X.xe s
theorem Nv {X:Cx}{pos:YM}:PPs X pos [] [] []:=fun ZY s σ H Q I h=>pairTrees_nil_walk ⟨[],H,I,.nil,h⟩
theorem Ag {X:Cx}{pos:YM}{k v:Expr}{ks:HU}{vs:IJ}{tk tv:TE}{trs:List (TE × TE)}(hk:PE X k tk)(hv:PE X v tv)(hr:PPs X pos ks vs trs) :
  PPs X pos (some k::ks) (v::vs) ((tk,tv)::trs):=fun ZY s σ H Q I h =>
 pairTrees_cons_walk (thn (hk ZY s σ H _ I h) fun u s1 ⟨x,H1,I1,rx,q1⟩=>thn (hv ZY s1 σ H1 _ I1 q1) fun w2 s2 ⟨y,H2,I2,ry,q2⟩ =>
  thn (hr ZY s2 σ H2 _ I2 q2) fun ws s3 ⟨ps,H3,I3,rel,q3⟩=>⟨(x,y)::ps,H3,I3,.cons ⟨rx,ry⟩ rel,q3⟩)
section
variable {X:Cx}{ZY:Ic}{σ:St}{H:Hp}{s:TF}{a:Addr}{y d:V}{u r:Value}{o:Option V}{A:Vf}{E:Ix}
end
section
variable {X:Cx}{o e f:Expr}{apos cpos:YM}{td ty tx:TE}
end
section
variable {X:Cx}{ZY:Ic}{σ:St}{H:Hp}{s:TF}{a:Addr}{kvs:List (Key × V)}{A:Vf}{E:Ix}
end
section
variable {X:Cx}{ZY:Ic}{σ:St}{H:Hp}{s:TF}{a:Addr}{y:V}{u:Value}{A:Vf}{E:Ix}
end
theorem rm.vG {k:Nat}{A:Vf}(r:rm k A):A.units+1 < cLine:=by have:=r.un;lia
section
variable {X:Cx}{ZY:Ic}{σ:St}{H:Hp}{s:TF}{a b:Addr}{v:V}{r:Value}{A:Vf}{E:Ix}
theorem G7 {kvs:List (List Key × V)}{k:List Key}{Q:Unit->TF->Prop}(hu:A.units < cLine)(I:Inv X ZY σ H s)(e:H a=some (.dT kvs))(eb:H b=some (.tup (k.map kV)))(l:kvs.length < sizeLine)(rv:RelV v r)(h:∀ s',Inv X ZY σ (upd H a (.dT (putK kvs k v))) s'->Q () s') :
  Ug (Up X.prog X.w) A (dictSet a (.ref b) r) Q E s:=by
 obtain⟨z,hd,xs,rel,dd⟩:=O7 I.hok e
 have hz:xs.length<=sizeLine:=by rw[← aa5 rel];exact z
 have hl:(putK kvs k v).length<=sizeLine:=by have:=lE kvs k v;lia
 refine wpAny_dictSet_heap (hsz:=hz) hu (wQ I.hok eb) dd fun h' dd' hs=>h _ ?_
 obtain⟨q,es,ep,hq,h2,h3,h4,_,h5⟩:=dd'
 refine yx I (by rw[e];exact Yr) hs ⟨q,hq⟩ ⟨hl,hd,_,(rel.put k eb rv).keeps fun c ys ec=>?_,q,es,ep,hq,h2,h3,h4,h5⟩
 rw[aR (Qo ec e (fun z=>nomatch z))]
 exact ec
end
def Gp (p:Addr):List (V × V)->Hp->(Hp->Prop)->Prop
 | [],H,Q=>Q H
 | (x,y)::r,H,Q=>∃ kvs k b,H p=some (.dT kvs)/\x = .ref b/\H b=some (.tup (k.map kV))/\kvs.length < sizeLine/\Gp p r (upd H p (.dT (putK kvs k y))) Q
theorem Qn {X:Cx}{ZY:Ic}{σ:St}{p:Addr}{A:Vf}{E:Ix}(hu:A.units < cLine){Z:Hp->Prop}{Q:PUnit->TF->Prop}(hq:∀ H s,Inv X ZY σ H s->Z H->Q PUnit.unit s) :
  ∀ {ps:List (V × V)} {vs:List (Value × Value)} {H:Hp} {s:TF},VV ps vs->Inv X ZY σ H s->Gp p ps H Z->Ug (Up X.prog X.w) A (storeAll p vs) Q E s:=by
 intro ps vs H s r
 induction r generalizing H s with
 | nil =>
  intro I t
  unfold storeAll
  rw[XS]
  exact TV (hq _ _ I t)
 | @cons x y xs ys h t ih =>
  intro I q
  obtain⟨x1,x2⟩:=x
  obtain⟨y1,y2⟩:=y
  obtain⟨kvs,k,b,e,ex,eb,l,q⟩:=q
  subst ex
  cases (show y1=U5 b from h.1)
  unfold storeAll
  rw[Xo]
  exact Tv (Tv (G7 hu I e eb l h.2 fun s' I'=>TV (ih I' q)))
def Qm (trs:List (TE × TE)):TE:=fun σ H Q=>∀ p,H p=none->Gd trs σ (upd H p (.dT [])) fun ps H2=>Gp p ps H2 fun H3=>Q (.ref p) H3
theorem JR {X:Cx}{pos:YM}{keys:HU}{values:IJ}{trs:List (TE × TE)}(hu:X.A.units < cLine)(h:PPs X pos keys values trs)(hall:keys.all (·.isSome)=true)(hl:keys.length=values.length)(h0:keys≠[])
  (h15:keys.length<=15):PE X (.Dict keys values pos) (Qm trs):=by
 intro ZY s σ H Q I q
 have hn:=I.hok.fresh (Ua s.heap.objs.size)
 have I1:=I.laid (a:=s.heap.objs.size) (o:=.dT []) (h':=s.heap.push { cls:=.type "dict",data:=.dict #[] }) (t':=s.toks) (fun _ _ q=>Tz _ q) (Ua _) (Ae s.heap I.big)
 refine wpAny_Dict_any hall hl h0 h15 (thn (h ZY _ σ _ _ I1 (q _ hn)) fun ws s2 ⟨ps,H2,I2,rel,q2⟩=>?_)
 exact Qn hu (fun H3 s3 I3 q3=>⟨.ref s.heap.objs.size,H3,I3,U,q3⟩) rel I2 q2
end L2
namespace L2
open PySem PySem.Spec PyProof.Rows PySem.W
section
variable {n:Nat}{o:Nat->Nat->Bool}{cmp:Nat->Nat->(Bool->TF->Prop)->TF->Prop}{s:TF}
def d9 (n:Nat)(p:Array Nat):Prop:=p.toList.Perm (Ui n)
theorem d9.size {p:Array Nat}(h:d9 n p):p.size=n:=by
 have:=h.length_eq
 rw[UJ] at this
 exact this
theorem d9.lt {p:Array Nat}(h:d9 n p){i:Nat}(hi:i < n):p.getD i 0 < n:=by
 have hs:i < p.size:=by rw[h.size];exact hi
 have:p.getD i 0∈p.toList:=by
  simp [Array.getD,hs]
 exact List.mem_range.mp (h.mem_iff.mp this)
theorem d9.ne {p:Array Nat}(h:d9 n p){i j:Nat}(hi:i < n)(hj:j < n)(e:i≠j):p.getD i 0≠p.getD j 0:=by
 have nd:p.toList.Nodup:=h.nodup_iff.mpr List.nodup_range
 have hs:i < p.toList.length:=by rw[Uv,h.size];exact hi
 have hs':j < p.toList.length:=by rw[Uv,h.size];exact hj
 intro z
 have a1:p.getD i 0=p.toList[i]:=by simp [Array.getD,show i < p.size by simpa using hs]
 have a2:p.getD j 0=p.toList[j]:=by simp [Array.getD,show j < p.size by simpa using hs']
 rw[a1,a2] at z
 exact e ((abP nd).mp z)
def UpO (o:Nat->Nat->Bool)(p:Array Nat)(k:Nat):Prop:=∀ i j,i < j->j < k->o (p.getD i 0) (p.getD j 0)=true
def DnO (o:Nat->Nat->Bool)(p:Array Nat)(k:Nat):Prop:=∀ i j,i < j->j < k->o (p.getD j 0) (p.getD i 0)=true
variable (tr:∀ i j k,i < n->j < n->k < n->o i j=true->o j k=true->o i k=true)(tot:∀ i j,i < n->j < n->i≠j->o i j=false->o j i=true)
variable (hc:∀ i j,i < n->j < n->∀ C:Bool->TF->Prop,C (o i j) s->cmp i j C s)
include tr in
theorem UpO.succ {p:Array Nat}(hp:d9 n p){k:Nat}(h1:1<=k)(hk:k < n)(h:UpO o p k)(e:o (p.getD (k - 1) 0) (p.getD k 0)=true):UpO o p (k+1):=by
 intro i j hij hj
 rcases V0 j k with h' | h'
 ·exact h i j hij h'
 ·have:j=k:=by lia
  subst this
  rcases V0 i (j - 1) with h2 | h2
  ·exact tr _ _ _ (hp.lt (by lia)) (hp.lt (by lia)) (hp.lt hk) (h i (j - 1) h2 (by lia)) e
  ·have:i=j - 1:=by lia
   subst this
   exact e
include tr in
theorem DnO.succ {p:Array Nat}(hp:d9 n p){k:Nat}(h1:1<=k)(hk:k < n)(h:DnO o p k)(e:o (p.getD k 0) (p.getD (k - 1) 0)=true):DnO o p (k+1):=by
 intro i j hij hj
 rcases V0 j k with h' | h'
 ·exact h i j hij h'
 ·have:j=k:=by lia
  subst this
  rcases V0 i (j - 1) with h2 | h2
  ·exact tr _ _ _ (hp.lt hk) (hp.lt (by lia)) (hp.lt (by lia)) e (h i (j - 1) h2 (by lia))
  ·have:i=j - 1:=by lia
   subst this
   exact e
include tr tot hc in
theorem zm {p:Array Nat}(hp:d9 n p){Q:Nat->TF->Prop}:∀ (f k:Nat),1<=k->k+f<=n->UpO o p k->(∀ m,k<=m->m<=k+f->UpO o p m->(m=k+f∨o (p.getD m 0) (p.getD (m - 1) 0)=true)->Q m s)->(kas_asc p f k).kasWp cmp Q s
 | 0,k,_,_,hu,h=>h k (Ua _) (Ua _) hu (.inl U)
 | f+1,k,h1,hk,hu,h=>by
  show cmp _ _ _ s
  refine hc _ _ (hp.lt (by lia)) (hp.lt (by lia)) _ ?_
  cases e:o (p.getD k 0) (p.getD (k - 1) 0) with
  | true =>
   show XF cmp (if true=true then _ else _) Q s
   rw[if_pos U]
   exact h k (Ua _) (by lia) hu (.inr e)
  | false =>
   show XF cmp (if false=true then _ else _) Q s
   rw[if_neg Uc]
   refine zm hp f (k+1) (by lia) (by lia) (hu.succ tr hp h1 (by lia) (tot _ _ (hp.lt (by lia)) (hp.lt (by lia)) (hp.ne (by lia) (by lia) (by lia)) e)) fun m h2 h3 h4 h5=>h m (by lia) (by lia) h4 ?_
   rcases h5 with z | z
   ·exact .inl (by lia)
   ·exact .inr z
include tr tot hc in
theorem Ah {p:Array Nat}(hp:d9 n p){Q:Array Nat × Nat × Nat->TF->Prop}:∀ (f k:Nat),1<=k->k+f<=n->DnO o p k->(∀ m,k<=m->m<=k+f->DnO o p m->Q (p,m,0) s)->(kas_desc f p k 0).kasWp cmp Q s
 | 0,k,_,_,hu,h=>h k (Ua _) (Ua _) hu
 | f+1,k,h1,hk,hu,h=>by
  show cmp _ _ _ s
  refine hc _ _ (hp.lt (by lia)) (hp.lt (by lia)) _ ?_
  cases e:o (p.getD k 0) (p.getD (k - 1) 0) with
  | true =>
   show XF cmp (if true=true then _ else _) Q s
   rw[if_pos U,if_neg (by decide)]
   exact Ah hp f (k+1) (by lia) (by lia) (hu.succ tr hp h1 (by lia) e) fun m h2 h3 h4=>h m (by lia) (by lia) h4
  | false =>
   show XF cmp (if false=true then _ else _) Q s
   rw[if_neg Uc]
   show cmp _ _ _ s
   refine hc _ _ (hp.lt (by lia)) (hp.lt (by lia)) _ ?_
   rw[tot _ _ (hp.lt (by lia)) (hp.lt (by lia)) (hp.ne (by lia) (by lia) (by lia)) e]
   show XF cmp (if true=true then _ else _) Q s
   rw[if_pos U]
   exact h k (Ua _) (by lia) hu
theorem qW {p q:Array Nat}{i j:Nat}(h:p[i]? = q[j]?):p.getD i 0=q.getD j 0:=by
 rw[Wf,Wf,h]
theorem Ju {p:Array Nat}(hp:d9 n p)(k:Nat):d9 n (kas_rev p 0 k):=by
 have:=mirror_perm p 0 k ((k - 0) / 2)
 exact (Array.perm_iff_toList_perm.mp this).trans hp
theorem KD {p:Array Nat}{k:Nat}(hk:k<=p.size)(i:Nat):(kas_rev p 0 k).getD i 0=if i < k then p.getD (k - 1 - i) 0 else p.getD i 0:=by
 have e:=getElem?_mirror_all (xs:=p) (i:=0) hk i
 by_cases h:i < k
 ·rw[if_pos ⟨Uw _,h⟩] at e
  rw[if_pos h]
  exact qW (e.trans (by rw[Nat.zero_add]))
 ·rw[if_neg (fun z=>h z.2)] at e
  rw[if_neg h]
  exact qW e
theorem O8 {p:Array Nat}(hp:d9 n p){k:Nat}(hk:k<=n)(h:DnO o p k):UpO o (kas_rev p 0 k) k:=by
 intro i j hij hj
 rw[KD (by rw[hp.size];exact hk),KD (by rw[hp.size];exact hk),if_pos (by lia),if_pos hj]
 exact h (k - 1 - j) (k - 1 - i) (by lia) (by lia)
include tr tot hc in
theorem Jr {p:Array Nat}(hp:d9 n p){k:Nat}(h1:1<=k)(hk:k<=n)(h:DnO o p k){Q:Nat × Array Nat->TF->Prop}(hq:∀ m p',d9 n p'->1<=m->m<=n->UpO o p' m->Q (m,p') s):(kas_tail3 k n p).kasWp cmp Q s:=by
 unfold kas_tail3
 rw[ZD]
 have hp':=Ju hp k
 exact zm tr tot hc hp' (n - k) k h1 (by lia) (O8 hp hk h) fun m h2 h3 h4 _=>hq m _ hp' (by lia) (by lia) h4
include tr tot hc in
theorem GK (h2:2<=n){p:Array Nat}(hp:d9 n p){Q:Nat × Array Nat->TF->Prop}(hq:∀ m p',d9 n p'->1<=m->m<=n->UpO o p' m->Q (m,p') s):(kas_count n p).kasWp cmp Q s:=by
 unfold kas_count
 rw[ZD]
 refine zm tr tot hc hp (n - 1) 1 (Ua _) (by lia) (fun i j hij hj=>by lia) fun m h3 h4 h5 h6=>?_
 show XF cmp (if (m == n)=true then _ else _) Q s
 by_cases e:(m == n)=true
 ·rw[if_pos e]
  exact hq m p hp h3 (by lia) h5
 ·rw[if_neg e]
  have mn:m < n:=by
   have:¬ m=n:=by simpa using e
   lia
  by_cases g:m > 1
  ·rw[if_pos g]
   show cmp _ _ _ s
   refine hc _ _ (hp.lt (by lia)) (hp.lt (by lia)) _ ?_
   rw[h5 0 (m - 1) (by lia) (by lia)]
   show XF cmp (if true=true then _ else _) Q s
   rw[if_pos U]
   exact hq m p hp h3 (by lia) h5
  ·rw[if_neg g]
   have m1:m=1:=by lia
   subst m1
   have z:o (p.getD 1 0) (p.getD 0 0)=true:=by
    rcases h6 with z | z
    ·lia
    ·exact z
   unfold kas_descPart
   rw[ZD]
   refine Ah tr tot hc hp (n - 2) 2 (by lia) (by lia) (fun i j hij hj=>?_) fun m h7 h8 h9=>?_
   ·have a1:i=0:=by lia
    have a2:j=1:=by lia
    subst a1 a2
    exact z
   ·show XF cmp (if 0 > 0 then _ else _) Q s
    rw[if_neg (by decide)]
    exact Jr tr tot hc hp (by lia) (by lia) h9 hq
include tr tot hc in
theorem pR {p:Array Nat}(hp:d9 n p){k:Nat}(hk:k < n)(hu:UpO o p k){Q:Nat->TF->Prop}(hq:∀ l,l<=k->(∀ i < l,o (p.getD i 0) (p.getD k 0)=true)->(∀ i,l<=i->i < k->o (p.getD k 0) (p.getD i 0)=true)->Q l s) :
  ∀ (f l r:Nat),l<=r->r<=k->r<=l+f->(∀ i < l,o (p.getD i 0) (p.getD k 0)=true)->(∀ i,r<=i->i < k->o (p.getD k 0) (p.getD i 0)=true)->(kas_place p k f l r).kasWp cmp Q s
 | 0,l,r,h1,h2,h3,a,b=>hq l (by lia) a fun i h4 h5=>b i (by lia) h5
 | f+1,l,r,h1,h2,h3,a,b=>by
  unfold kas_place
  by_cases g:l ≥ r
  ·rw[if_pos g]
   exact hq l (by lia) a fun i h4 h5=>b i (by lia) h5
  ·rw[if_neg g]
   show cmp _ _ _ s
   have hm:(l+r) / 2 < r:=by lia
   have hm':l<=(l+r) / 2:=by lia
   generalize (l+r) / 2=md at *
   refine hc _ _ (hp.lt hk) (hp.lt (by lia)) _ ?_
   cases e:o (p.getD k 0) (p.getD md 0) with
   | true =>
    show XF cmp (if true=true then _ else _) Q s
    rw[if_pos U]
    refine pR hp hk hu hq f l md hm' (by lia) (by lia) a fun i h4 h5=>?_
    rcases V0 md i with h6 | h6
    ·exact tr _ _ _ (hp.lt hk) (hp.lt (by lia)) (hp.lt (by lia)) e (hu md i h6 h5)
    ·have:i=md:=by lia
     subst this
     exact e
   | false =>
    show XF cmp (if false=true then _ else _) Q s
    rw[if_neg Uc]
    have e':=tot _ _ (hp.lt hk) (hp.lt (by lia)) (hp.ne hk (by lia) (by lia)) e
    refine pR hp hk hu hq f (md+1) r hm h2 (by lia) (fun i h4=>?_) b
    rcases V0 i md with h6 | h6
    ·exact tr _ _ _ (hp.lt (by lia)) (hp.lt (by lia)) (hp.lt hk) (hu i md h6 (by lia)) e'
    ·have:i=md:=by lia
     subst this
     exact e'
theorem KQ {p:Array Nat}{k l:Nat}(hk:k < p.size)(hl:l<=k)(i:Nat):(bubble p k (k - l)).getD i 0=if i=l then p.getD k 0 else if l < i/\i<=k then p.getD (i - 1) 0 else p.getD i 0:=by
 have e:=getElem?_bubble hk (k - l) (by lia) i
 rw[show k - (k - l)=l by lia] at e
 by_cases h:i=l
 ·rw[if_pos h] at e ⊢
  exact qW e
 ·rw[if_neg h] at e ⊢
  by_cases h':l < i/\i<=k
  ·rw[if_pos h'] at e ⊢
   exact qW e
  ·rw[if_neg h'] at e ⊢
   exact qW e
include tr tot hc in
theorem GZ {Q:Array Nat->TF->Prop}(hq:∀ p,d9 n p->UpO o p n->Q p s):∀ (f:Nat) (p:Array Nat) (k:Nat),d9 n p->k+f=n->UpO o p k->(kas_bin f p k).kasWp cmp Q s
 | 0,p,k,hp,e,hu=>hq p hp (by rw[← e];exact hu)
 | f+1,p,k,hp,e,hu=>by
  unfold kas_bin
  rw[ZD]
  refine pR tr tot hc hp (by lia) hu (fun l hl a b=>?_) k 0 k (Uw _) (Ua _) (by lia) (fun i h=>by lia) (fun i h1 h2=>by lia)
  have hpb:d9 n (bubble p k (k - l)):=(Array.perm_iff_toList_perm.mp (bubble_perm p k (k - l))).trans hp
  refine GZ hq f _ (k+1) hpb (by lia) fun i j hij hj=>?_
  have hks:k < p.size:=by rw[hp.size];lia
  rw[KQ hks hl,KQ hks hl]
  by_cases h1:i=l
  ·rw[if_pos h1,if_neg (by lia),if_pos (by lia)]
   exact b (j - 1) (by lia) (by lia)
  ·rw[if_neg h1]
   by_cases h2:l < i/\i<=k
   ·rw[if_pos h2,if_neg (by lia),if_pos (by lia)]
    exact hu (i - 1) (j - 1) (by lia) (by lia)
   ·rw[if_neg h2]
    by_cases h3:j=l
    ·rw[if_pos h3]
     exact a i (by lia)
    ·rw[if_neg h3]
     by_cases h4:l < j/\j<=k
     ·rw[if_pos h4]
      rcases V0 i (j - 1) with h5 | h5
      ·exact hu i (j - 1) h5 (by lia)
      ·lia
     ·rw[if_neg h4]
      exact hu i j hij (by lia)
include tr tot hc in
theorem Js (h2:2<=n){Q:Array Nat->TF->Prop}(hq:∀ p,d9 n p->UpO o p n->Q p s):(kas_sort n).kasWp cmp Q s:=by
 unfold kas_sort
 rw[ZD]
 refine GK tr tot hc h2 (p:=abx (Ui n)) (List.Perm.refl _) fun m p' hp' h1 hm hu=>?_
 by_cases g:m < n
 ·show XF cmp (if m < n then _ else _) Q s
  rw[if_pos g,show max m 1=m by lia]
  exact GZ tr tot hc hq (n - m) p' m hp' (by lia) hu
 ·show XF cmp (if m < n then _ else _) Q s
  rw[if_neg g]
  have:m=n:=by lia
  subst this
  exact hq p' hp' hu
end
end L2
namespace L2
open PySem PySem.Spec PyProof.Rows PySem.W PySem.SeqAt
open MeetsSeq MeetsSeq2 MeetsSeq3
theorem Cz (l b:Addr)(items items2:Array Value)(n n2:Nat)(dd dd2:ID)(sl sl2:Array (IC)){ns ms:IN}(i1:Vn items.toList ns)(i2:Vn items2.toList ms)(k:Nat) :
  ∀ i:Nat,i<=ns.length->i<=ms.length->min ns.length ms.length - i=k->abw (Builtin.«list.__eq__.loop» ⟨[.ref l,.ref b,V2 i,V2 0],[]⟩)
   (fun A R s=>s.heap.get? l=some { cls:=.type "list",dict:=dd,data:=.seq items n,slots:=sl }/\s.heap.get? b=some { cls:=.type "list",dict:=dd2,data:=.seq items2 n2,slots:=sl2 } ∧
    R (.ok (.ret (.bool (HT.lexLt (ns.drop i) (ms.drop i))))) s):=by
 have z1:items.size=ns.length:=by rw[← Uv];exact i1.length
 have z2:items2.size=ms.length:=by rw[← Uv];exact i2.length
 induction k with
 | zero =>
  intro i h1 h2 hk prog w A R s h
  obtain⟨hp,g,d,tk,os⟩:=s;obtain⟨hl,hb,h⟩:=h
  have lx:HT.lexLt (ns.drop i) (ms.drop i)=decide (items.size < items2.size):=by
   rw[z1,z2]
   by_cases a1:i < ns.length
   ·have a2:ms.length=i:=by lia
    rw[Xe (l:=ms) (by lia),Wi a1,HT.rK,decide_eq_false (by lia)]
   ·rw[Xe (l:=ns) (by lia)]
    by_cases a2:i < ms.length
    ·rw[Wi a2,HT.rP,decide_eq_true (by lia)]
    ·rw[Xe (l:=ms) (by lia),decide_eq_false (by lia)]
     rfl
  rw[lx] at h
  wp_walk using UG hl,UG hb
  by_cases a1:i < ns.length
  ·have hi2:items2[((i:Nat):Int).toNat]? = none:=by simp;lia
   have hi1:∃ v,items[((i:Nat):Int).toNat]? = some v:=⟨items[i],by rw[UL];exact Uu (by lia)⟩
   obtain⟨v,hi1⟩:=hi1
   rw[hi1,hi2]
   wp_walk using UG hl,UG hb
   exact h
  ·have hi1:items[((i:Nat):Int).toNat]? = none:=by simp;lia
   rw[hi1]
   wp_walk using UG hl,UG hb
   exact h
 | succ k ih =>
  intro i h1 h2 hk prog w A R s h
  obtain⟨hp,g,d,tk,os⟩:=s;obtain⟨hl,hb,h⟩:=h
  wp_walk using UG hl,UG hb
  have hlt:i < ns.length:=by lia
  have hlt2:i < ms.length:=by lia
  obtain⟨t1,e1⟩:=iU i1 (TJ hlt)
  obtain⟨t2,e2⟩:=iU i2 (TJ hlt2)
  have hi1:items[((i:Nat):Int).toNat]? = some (.int ns[i] t1):=by rw[UL,← Vk];exact e1
  have hi2:items2[((i:Nat):Int).toNat]? = some (.int ms[i] t2):=by rw[UL,← Vk];exact e2
  have hc:((i:Int)+1)=((i+1:Nat):Int):=by push_cast;rfl
  rw[Wi hlt,Wi hlt2,HT.fU] at h
  rw[hi1,hi2]
  refine Tv (aao ?_)
  by_cases hb':ns[i]=ms[i]
  ·rw[if_pos hb'] at h
   rw[show (ns[i] == ms[i])=true by simp [hb']]
   wp_walk
   rw[hc]
   exact⟨Wo plain_eq_loop _,V8 entry_eq_loop (by
    rw[VN plain_eq_loop _]
    exact ih (i+1) (by lia) (by lia) (by lia) prog w A R _ ⟨hl,hb,h⟩)⟩
  ·rw[if_neg hb'] at h
   rw[show (ns[i] == ms[i])=false by simp [hb']]
   wp_walk using UG hl,UG hb
   rw[hi1,hi2]
   show Ug _ _ (do let v ← richCompare .Lt (.int ns[i] t1) (.int ms[i] t2);ret v) _ _ _
   refine Tv (show Ug _ _ (Wl .Lt (.int ns[i] t1) (.int ms[i] t2)) _ _ _ from PyProof.Rows.lt_int ?_)
   exact TV h
theorem Dw (l b:Addr)(items items2:Array Value)(n n2:Nat)(dd dd2:ID)(sl sl2:Array (IC)){ns ms:IN}(i1:Vn items.toList ns)(i2:Vn items2.toList ms) :
  abw (Builtin.«list.__lt__» ⟨[.ref l,.ref b],[]⟩)
   (fun A R s=>s.heap.get? l=some { cls:=.type "list",dict:=dd,data:=.seq items n,slots:=sl }/\s.heap.get? b=some { cls:=.type "list",dict:=dd2,data:=.seq items2 n2,slots:=sl2 } ∧
    R (.ok (.ret (.bool (HT.lexLt ns ms)))) s):=by
 intro prog w A R s h
 obtain⟨hp,g,d,tk,os⟩:=s;obtain⟨hl,hb,h⟩:=h
 have f3:=AutoSeq1.sub_list_list
 wp_walk using UG hl,UG hb
 exact⟨Wo plain_eq_loop _,V8 entry_eq_loop (by
  rw[VN plain_eq_loop _]
  exact Cz l b items items2 n n2 dd dd2 sl sl2 i1 i2 _ 0 (Uw _) (Uw _) U prog w A R _ ⟨hl,hb,h⟩)⟩
section
variable {prog:Uy}{w:Ve}{A:Vf}{E:Ix}{s:TF}
end
end L2
namespace L2
open PySem PySem.Spec PyProof.Rows PySem.W
theorem lD:∀ {a b c:IN},HT.lexLt a b=true->HT.lexLt b c=true->HT.lexLt a c=true
 | [],[],_,h,_=>by cases h
 | [],_::_,[],_,h=>by cases h
 | [],_::_,_::_,_,_=>rfl
 | _::_,[],_,h,_=>by cases h
 | _::_,_::_,[],_,h=>by cases h
 | x::a,y::b,z::c,h1,h2=>by
  rw[HT.fU] at h1 h2 ⊢
  by_cases e1:x=y
  ·rw[if_pos e1] at h1
   by_cases e2:y=z
   ·rw[if_pos e2] at h2
    rw[if_pos (e1.trans e2)]
    exact lD h1 h2
   ·rw[if_neg e2] at h2
    rw[e1,if_neg e2]
    exact h2
  ·rw[if_neg e1] at h1
   have d1:=of_decide_eq_true h1
   by_cases e2:y=z
   ·rw[← e2,if_neg e1]
    exact h1
   ·rw[if_neg e2] at h2
    have d2:=of_decide_eq_true h2
    rw[if_neg (by lia)]
    exact decide_eq_true (by lia)
theorem vH:∀ {a b:IN},a≠b->HT.lexLt a b=false->HT.lexLt b a=true
 | [],[],h,_=>absurd U h
 | [],_::_,_,h=>by cases h
 | _::_,[],_,_=>rfl
 | x::a,y::b,h,e=>by
  rw[HT.fU] at e ⊢
  by_cases q:x=y
  ·rw[if_pos q] at e
   rw[if_pos q.symm]
   exact vH (fun z=>h (by rw[q,z])) e
  ·rw[if_neg q] at e
   rw[if_neg (fun z=>q z.symm)]
   have:=of_decide_eq_false e
   exact decide_eq_true (by lia)
section
variable {prog:Uy}{w:Ve}{A:Vf}{E:Ix}{s:TF}
theorem Hn {l b:Addr}{items items2:Array Value}{ns ms:IN}{C:Bool->TF->Prop}(hl:s.heap.IsList l items)(hb:s.heap.IsList b items2)(i1:Vn items.toList ns)(i2:Vn items2.toList ms)(hu:A.units < cLine)(h:C (HT.lexLt ns ms) s):Ug (Up prog w) A (keyLt' oneType' (.ref l) (.ref b)) C E s:=by
 obtain⟨⟨cls,dd,data,sl⟩,ho,hc,n,hd⟩:=id hl
 obtain⟨⟨cls2,dd2,data2,sl2⟩,ho2,hc2,n2,hd2⟩:=id hb
 simp only at hc hd hc2 hd2
 subst hc hd hc2 hd2
 rw[keyLt'_oneType,oneLt'_eq]
 simp only[if_true]
 refine Tv (wpAny_cRoomFor hu ?_)
 refine Tv (wpAny_callSpecialIfBound?_slot ⟨_,ho,U⟩ F.slot_list_lt (XD F.slot_list_lt ⟨_,ho,U⟩ F.entry_list_lt (F.args_list_lt_2 _ _) (Dw l b items items2 n n2 dd dd2 sl sl2 i1 i2) ⟨ho,ho2,?_⟩))
 exact WD h
theorem uH {a:Addr} {vs:IF} {n:Nat} {κ:Xv} {o:Nat->Nat->Bool} {P:Fin->TF->Prop} (ho:s.heap.get? a=some (VJ "list" vs.toArray n)) (h64:vs.length < 64)
  (hk:2<=vs.length->∀ h',jM s.heap h' a->∀ Q:Xv->TF->Prop,Q κ { s with heap:=h' }->Ug (Up prog w) A (keyKind' vs.toArray) Q E { s with heap:=h' })
  (hO:∀ h',jM s.heap h' a->∀ i j,i < vs.length->j < vs.length->∀ C:Bool->TF->Prop,C (o i j) { s with heap:=h' }->Ug (Up prog w) A (keyLt' κ (vs.getD i U0) (vs.getD j U0)) C (fun _ _=>False) { s with heap:=h' })
  (tr:∀ i j k,i < vs.length->j < vs.length->k < vs.length->o i j=true->o j k=true->o i k=true) (tot:∀ i j,i < vs.length->j < vs.length->i≠j->o i j=false->o j i=true)
  (h:∀ p:Array Nat,d9 vs.length p->UpO o p vs.length->P (.done (.ret .none)) { s with heap:=sortedHeap s.heap a vs (p.toList.map fun i=>vs.getD i U0).toArray }) :
  Ug (Up prog w) A (Builtin.«list.sort» ⟨[.ref a],[]⟩) P E s:=by
 rw[list_sort_plain]
 have ha:a < s.heap.objs.size:=Uk ho
 refine Tv (listItems_at ho U ?_)
 refine Tv (aaj ho U ?_ (by rw[Ue,Wv];lia) (Uw _))
 obtain⟨e1,ho1⟩:∃ e1,(s.heap.update a (Vh fun _=>#[])).get? a=some (VJ "list" #[] e1):=⟨_,get?_update_seq ho (fun _=>#[])⟩
 refine Tv (aaS ho1 U ?_)
 refine Tv (aaR ?_ (by show vs.length<=_;rw[Wv];lia))
 refine Tv (aag ?_ (Uw _))
 refine V5 ?_
 have ho6:(((s.heap.update a (Vh fun _=>#[])).push (VJ "tuple" vs.toArray 0)).push (VJ "list" #[] 0)).get? a=some (VJ "list" #[] e1):=by
  rw[V6 _ _ _ (by rw[aav,Wy];exact Uq (Vi ha)),V6 _ _ _ (by rw[Wy];exact Uq ha)]
  exact ho1
 have kp:jM s.heap (((s.heap.update a (Vh fun _=>#[])).push (VJ "tuple" vs.toArray 0)).push (VJ "list" #[] 0)) a:=fun b o hb e=>by
  have hlt:b < s.heap.objs.size:=Uk e
  rw[V6 _ _ _ (by rw[aav,Wy];exact Uq (Vi hlt)),V6 _ _ _ (by rw[Wy];exact Uq hlt),ZL _ _ _ _ hb]
  exact e
 show Ug (Up prog w) A _ P E { s with heap:=((s.heap.update a (Vh fun _=>#[])).push (VJ "tuple" vs.toArray 0)).push (VJ "list" #[] 0) }
 dsimp only
 have hsz:vs.toArray.size=vs.length:=by simp
 have erange:(abx (Ui vs.length)).map (Xu (Yo vs))=Yo vs:=by
  have e:=kas_range (Yo vs)
  rw[show (Yo vs).size=vs.length from pairsOf_size vs] at e
  exact e
 have emap:∀ p:Array Nat,(p.map (Xu (Yo vs))).map (·.2)=(p.toList.map fun i=>vs.getD i U0).toArray:=fun p=>by
  apply Array.ext'
  simp [Z9]
 by_cases h2:vs.toArray.size < 2
 ·rw[if_pos h2,if_pos h2]
  refine Tv (TV ?_)
  rw[aaF]
  refine Tv (TV ?_)
  dsimp only
  have em:(Yo vs).map (·.2)=((Ui vs.length).map fun i=>vs.getD i U0).toArray:=by
   rw[← erange,emap]
  refine Tv (aaS ho6 U ?_)
  refine Tv (aaj ho6 U ?_ (Uw _) (by rw[Array.size_map];show (Yo vs).size<=_;rw[pairsOf_size,Wv];lia))
  simp only[bne_self_eq_false,Y0,if_false]
  have:=h (abx (Ui vs.length)) (List.Perm.refl _) fun i j hij hj=>by lia
  refine TV ?_
  show P _ { s with heap:=sortedHeap s.heap a vs ((Yo vs).map (·.2)) }
  rw[em]
  exact this
 ·rw[if_neg h2,if_neg h2]
  refine Tv (hk (by lia) _ kp _ ?_)
  have est:Ys κ (vs.toArray.zip vs.toArray) #[] 7 none=kas_st κ (Yo vs) (abx (Ui vs.length)):=by
   unfold kas_st
   rw[erange]
   rfl
  rw[est]
  refine Tv (VB (kas_runs (prog:=prog) (w:=w) (A:=A) (E:=E) (it:=Yo vs) (κ:=κ) (n:=vs.length) (s:={ s with heap:=((s.heap.update a (Vh fun _=>#[])).push (VJ "tuple" vs.toArray 0)).push (VJ "list" #[] 0) })
   (G:=fun p s'=>(d9 vs.length p/\UpO o p vs.length)/\s'={ s with heap:=((s.heap.update a (Vh fun _=>#[])).push (VJ "tuple" vs.toArray 0)).push (VJ "list" #[] 0) })
   (Q:=fun _ st' s'=>(∃ p,(d9 vs.length p/\UpO o p vs.length)/\aaa st'=p.map (Xu (Yo vs))/\failedOf st'=none)/\s'={ s with heap:=((s.heap.update a (Vh fun _=>#[])).push (VJ "tuple" vs.toArray 0)).push (VJ "list" #[] 0) })
   (by lia) h64 (fun p' st' s' _ ea ef hg=>⟨⟨p',hg.1,ea,ef⟩,hg.2⟩) (Js tr tot (fun i j hi hj C hC=>?_) (by lia) fun p hp hu=>⟨⟨hp,hu⟩,U⟩)) ?_ fun _ _ e=>e)
  ·unfold ZM
   rw[Z9,Z9]
   exact hO _ kp i j hi hj C hC
  ·rintro⟨⟨⟩,st'⟩ s' ⟨⟨p,⟨hp,hu⟩,e1,e2⟩,rfl⟩
   dsimp only at e1 e2 ⊢
   have em:(aaa st').map (·.2)=(p.toList.map fun i=>vs.getD i U0).toArray:=by rw[e1,emap]
   refine Tv (aaS ho6 U ?_)
   refine Tv (aaj ho6 U ?_ (Uw _) (by rw[em,Ue,Tw,Uv,hp.size,Wv];lia))
   rw[e2]
   simp only[bne_self_eq_false,Y0,if_false]
   rw[em]
   exact TV (h p hp hu)
end
section
variable {prog:Uy}{w:Ve}{A:Vf}{E:Ix}{s:TF}
theorem Dk {l:Addr}{vs:IF}{κ:Xv}{o:Nat->Nat->Bool}{Q:Ix}(hl:s.heap.IsList l vs.toArray)(h64:vs.length < 64)
  (hk:2<=vs.length->∀ h':Vv,(∀ b o,s.heap.get? b=some o->h'.get? b=some o)->∀ Q:Xv->TF->Prop,Q κ { s with heap:=h' }->Ug (Up prog w) A.in1.in1 (keyKind' vs.toArray) Q E { s with heap:=h' })
  (hO:∀ h':Vv,(∀ b o,s.heap.get? b=some o->h'.get? b=some o)->∀ i j,i < vs.length->j < vs.length->∀ C:Bool->TF->Prop,C (o i j) { s with heap:=h' }->Ug (Up prog w) A.in1.in1 (keyLt' κ (vs.getD i U0) (vs.getD j U0)) C (fun _ _=>False) { s with heap:=h' })
  (tr:∀ i j k,i < vs.length->j < vs.length->k < vs.length->o i j=true->o j k=true->o i k=true) (tot:∀ i j,i < vs.length->j < vs.length->i≠j->o i j=false->o j i=true)
  (h:∀ p:Array Nat,d9 vs.length p->UpO o p vs.length->Q (.ref (s.heap.objs.size+1)) { s with heap:=sortedAll s.heap vs (p.toList.map fun i=>vs.getD i U0).toArray }) :
  Ug (Up prog w) A (call (.builtin "sorted") [.ref l]) Q E s:=by
 refine Z6 kind_sorted plain_sorted entry_sorted (args_sorted1 _) ?_
 unfold Builtin.«sorted»
 refine Tv (m:=checkCount "sorted" 1 1 _) (TV ?_)
 refine Tv (collect_list hl ?_ (by rw[Wv];lia))
 refine Tv (aag ?_ (by rw[Wv];lia))
 have hsz:((s.heap.push (VJ "list" #[] 0)).update s.heap.objs.size (Vh (·++vs.toArray))).objs.size=s.heap.objs.size+1:=by
  rw[Wy,aav]
 have hoL:(((s.heap.push (VJ "list" #[] 0)).update s.heap.objs.size (Vh (·++vs.toArray))).push (VJ "list" vs.toArray 0)).get? (s.heap.objs.size+1)=some (VJ "list" vs.toArray 0):=by
  rw[← hsz];exact Ub _ U
 have keep:∀ b o,s.heap.get? b=some o->(((s.heap.push (VJ "list" #[] 0)).update s.heap.objs.size (Vh (·++vs.toArray))).push (VJ "list" vs.toArray 0)).get? b=some o:=fun b o q=>by
  have hlt:b < s.heap.objs.size:=Uk q
  rw[V6 _ _ _ (by rw[hsz];exact Uq (Vi hlt)),ZL _ _ _ _ (Uq hlt),V6 _ _ _ (Uq hlt)]
  exact q
 have kb:∀ h':Vv,jM (((s.heap.push (VJ "list" #[] 0)).update s.heap.objs.size (Vh (·++vs.toArray))).push (VJ "list" vs.toArray 0)) h' (s.heap.objs.size+1)->∀ b o,s.heap.get? b=some o->h'.get? b=some o:=fun h' k b o q =>
  k b o (Uq (Vi (Uk q))) (keep b o q)
 show Ug _ _ _ _ _ { s with heap:=((s.heap.push (VJ "list" #[] 0)).update s.heap.objs.size (Vh (·++vs.toArray))).push (VJ "list" vs.toArray 0) }
 rw[hsz]
 refine Tv (V5 (Vu slot_list_sort ⟨_,hoL,U⟩ ab2 (uH (s:={ s with heap:=((s.heap.push (VJ "list" #[] 0)).update s.heap.objs.size (Vh (·++vs.toArray))).push (VJ "list" vs.toArray 0) }) hoL h64 (fun h2 h' k=>hk h2 h' (kb h' k)) (fun h' k=>hO h' (kb h' k)) tr tot fun p hp hu=>⟨_,U,?_⟩) (args_list_sort _)))
 exact TV ⟨_,U,h p hp hu⟩
end
theorem Ec {β:Type}{l:List β}{d:β}{p:Array Nat}(hp:d9 l.length p):(p.toList.map fun i=>l.getD i d).Perm l:=by
 refine (List.Perm.map _ hp).trans ?_
 have e:(Ui l.length).map (fun i=>l.getD i d)=l:=by
  apply List.ext_getElem (by simp)
  intro i h1 h2
  simp [h2]
 rw[e]
section
variable {X:Cx}{k:Nat}
inductive zH (K:UT)(xs:List V)(H:Hp)(Q:VK):Prop where
 | mk (p:Addr) (ps:HL) (_:xs=[.ref p]) (_:SqL K H p (ps.map fun p=>V.ref p.1)) (_:ps.length < 64) (_:(∀ q∈ps,SqL K H q.1 (q.2.map V.int))) (_:(ps.map (·.2)).Nodup) (_:∀ qs:HL,qs.Perm ps->qs.Pairwise (fun a b=>HT.lexLt a.2 b.2=true)->∀ l,H l=none->Q (.ref l) (upd H l (.lst (qs.map fun p=>V.ref p.1))))
theorem qj (hr:rm k X.A):iT X (.builtin "sorted") (zH X.K):=by
 intro ZY s σ H xs us Q I r h
 obtain⟨p,ps,rfl,hq,h64,ht,hnd,q⟩:=h
 obtain⟨u,rfl,ru⟩:=vals1 r
 cases ru
 obtain⟨its,rv,pl,_⟩:=I.list hq
 have ei:=zG ps its rv
 subst ei
 have lv:(ps.map fun p=>U5 p.1).length=ps.length:=by simp
 have pr:∀ p∈ps,∃ its:IF,s.heap.IsList p.1 its.toArray/\Vn its p.2:=fun p hm=>by
  obtain⟨i2,r2,p2,_⟩:=I.list (ht p hm)
  exact⟨i2,p2.isList,intsAre_of r2⟩
 have kl:∀ {h':Vv} {a:Addr} {it:Array Value},(∀ b o,s.heap.get? b=some o->h'.get? b=some o)->s.heap.IsList a it->h'.IsList a it:=fun kp ⟨ob,e,r⟩=>⟨ob,kp _ _ e,r⟩
 have hu:X.A.in1.in1.units < cLine:=by
  have:=hr.un
  show X.A.units+1+1 < _
  lia
 let o:Nat->Nat->Bool:=fun i j=>HT.lexLt (ps.getD i (0,[])).2 (ps.getD j (0,[])).2
 have dif:∀ i j,i < ps.length->j < ps.length->i≠j->(ps.getD i (0,[])).2≠(ps.getD j (0,[])).2:=fun i j hi hj ne z=>by
  have h1:(ps.getD i (0,[])).2=(ps.map (·.2))[i]'(by simpa using hi):=by simp [hi]
  have h2:(ps.getD j (0,[])).2=(ps.map (·.2))[j]'(by simpa using hj):=by simp [hj]
  rw[h1,h2] at z
  exact ne ((abP hnd).mp z)
 refine Dk (o:=o) (κ:=oneType') pl.isList (by lia) (fun h2 h' kp Q' hQ=>?_) (fun h' kp i j hi hj C hC=>?_) (fun i j k _ _ _ a b=>lD a b) (fun i j hi hj ne e=>vH (dif i j (by lia) (by lia) ne) e) fun pm hp hup=>?_
 ·refine kas_kind (T:=.type "list") h2 (fun v hv=>?_) (by rfl) (by rfl) hQ
  obtain⟨p,hm,rfl⟩:=List.mem_map.mp hv
  obtain⟨it,h1,_⟩:=pr p hm
  obtain⟨ob,e,c,_⟩:=kl kp h1
  exact kitAt_ty _ _ ⟨ob,e,c⟩
 ·have hi':i < ps.length:=by lia
  have hj':j < ps.length:=by lia
  rw[show (ps.map fun p=>U5 p.1).getD i U0 = .ref ps[i].1 by simp [hi'],show (ps.map fun p=>U5 p.1).getD j U0 = .ref ps[j].1 by simp [hj']]
  obtain⟨i1,l1,n1⟩:=pr ps[i] (VD hi')
  obtain⟨i2,l2,n2⟩:=pr ps[j] (VD hj')
  refine Hn (kl kp l1) (kl kp l2) (by simpa using n1) (by simpa using n2) hu ?_
  have:o i j=HT.lexLt ps[i].2 ps[j].2:=by simp [o,hi',hj']
  rw[← this]
  exact hC
 ·rw[lv] at hp hup
  obtain⟨e,he⟩:=sortedAll_at s.heap (ps.map fun p=>U5 p.1) (pm.toList.map fun i=>(ps.map fun p=>U5 p.1).getD i U0).toArray
  have hlt:∀ i∈pm.toList,i < ps.length:=fun i hi=>List.mem_range.mp (hp.mem_iff.mp hi)
  have hml:(pm.toList.map fun i=>V.ref (ps.getD i (0,[])).1).length<=sizeLine:=by
   rw[Tw,Uv,hp.size,Wv]
   lia
  have q':=q (pm.toList.map fun i=>ps.getD i (0,[])) (Ec hp) ?_ (s.heap.objs.size+1) (I.hok.fresh (WT _))
  ·rw[W4] at q'
   exact⟨.ref _,_,I.JK U U (fun _ _=>sortedAll_old) (WT _) (zL pm.toList hlt) hml he,U,q'⟩
  ·rw[List.pairwise_iff_getElem]
   intro i j hi hj hij
   rw[Tw,Uv,hp.size] at hi hj
   have:=hup i j hij hj
   simp only[List.getElem_map]
   have g:∀ x (hx:x < ps.length),pm.getD x 0=pm.toList[x]'(by rw[Uv,hp.size];exact hx):=fun x hx=>by
    have:x < pm.size:=by rw[hp.size];exact hx
    simp [Array.getD,this]
   rw[g i hi,g j hj] at this
   exact this
end
end L2
namespace L2
open PySem PySem.Spec PyProof.Rows
inductive HasDef (K:Ut)(x:VM)(st:Stmt)(f:Addr):Prop where
 | mk {od an:ID} {sl:Array (IC)} {oc kV dc pm cd ct:Value} (a:PySem.W.nsIn K U8 x=some (some (.ref f))) (l:K.lookup f=some ⟨oc,od,.func (Y9 x x (gA st) (eN st) (aD st) .none kV dc pm an cd ct),sl⟩) (c:aaV K cd x=true) (k:Z1 K (.ref f)=true):HasDef K x st f
section
variable {P:Uy}{w:Ve}{K:UT}{mg:VM->Option Value}{base h:Vv}{x:VM}{st:Stmt}{f:Addr}{ps:List VM}{sp:Sp}{k:Nat}
theorem HasDef.name (q:HasDef K x st f)(X:K.In h)(G:h.Ns U8 mg):mg x=some (.ref f):=by
 obtain⟨a,l,c,k⟩:=q
 exact PySem.W.mg_of X G a
theorem HasDef.df (q:HasDef K x st f)(X:K.In h)(G:h.Ns U8 mg)(hb:∀ fd,Fun K x x st f fd->Binds K fd ps [])(ok:∀ fd,Fun K x x st f fd->dF P w K mg base CX0 k f fd ps sp):Df P w K mg base x k ps sp:=by
 obtain⟨a,l,c,k⟩:=q
 have F:=KY l c k
 exact⟨⟨_,_,ok _ F,PySem.W.mg_of X G a,k,hb _ F⟩⟩
theorem HasDef.law {y:VM}(q:HasDef K x st f)(hb:∀ (kV dc pm:Value) (an:ID) (cd ct:Value) (s:TF) (v:Value),aa1 s (W.fnOf x x (gA st) (eN st) (aD st) .none kV dc pm an cd ct) ⟨[v],[]⟩ [(y,v)]):∃ fd,Fun K x x st f fd/\∀ (s:TF) (v:Value),aa1 s fd ⟨[v],[]⟩ [(y,v)]:=by
 obtain⟨a,l,c,k⟩:=q
 exact⟨_,KY l c k,hb _ _ _ _ _ _⟩
theorem S7 {α:Type}:∀ {us:List α},us.length=1->∃ x0,us=[x0]
 | [x0],_=>⟨x0,U⟩
theorem Su {α:Type}:∀ {us:List α},us.length=2->∃ x0 x1,us=[x0,x1]
 | [x0,x1],_=>⟨x0,x1,U⟩
theorem SQ {α:Type}:∀ {us:List α},us.length=3->∃ x0 x1 x2,us=[x0,x1,x2]
 | [x0,x1,x2],_=>⟨x0,x1,x2,U⟩
theorem R9 {α:Type}:∀ {us:List α},us.length=4->∃ x0 x1 x2 x3,us=[x0,x1,x2,x3]
 | [x0,x1,x2,x3],_=>⟨x0,x1,x2,x3,U⟩
theorem SJ {α:Type}:∀ {us:List α},us.length=5->∃ x0 x1 x2 x3 x4,us=[x0,x1,x2,x3,x4]
 | [x0,x1,x2,x3,x4],_=>⟨x0,x1,x2,x3,x4,U⟩
theorem bind1 {q a0:VM}(h:∀ (kV doc pm:Value) (an:ID) (cdv ct x0:Value),aaU (W.fnOf x q (gA st) (eN st) (aD st) .none kV doc pm an cdv ct) ⟨[x0],[]⟩=pure [(a0,x0)]:=by intros;rfl):∀ fd,Fun K x q st f fd->Binds K fd [a0] []:=fun _ F=>F.binds fun kV doc pm an cdv ct us hl=>by
 obtain⟨x0,rfl⟩:=S7 hl
 exact h kV doc pm an cdv ct x0
theorem bL {q a0 a1:VM}(h:∀ (kV doc pm:Value) (an:ID) (cdv ct x0 x1:Value),aaU (W.fnOf x q (gA st) (eN st) (aD st) .none kV doc pm an cdv ct) ⟨[x0,x1],[]⟩=pure [(a0,x0),(a1,x1)]:=by intros;rfl):∀ fd,Fun K x q st f fd->Binds K fd [a0,a1] []:=fun _ F=>F.binds fun kV doc pm an cdv ct us hl=>by
 obtain⟨x0,x1,rfl⟩:=Su hl
 exact h kV doc pm an cdv ct x0 x1
theorem wU {q a0 a1 a2:VM}(h:∀ (kV doc pm:Value) (an:ID) (cdv ct x0 x1 x2:Value),aaU (W.fnOf x q (gA st) (eN st) (aD st) .none kV doc pm an cdv ct) ⟨[x0,x1,x2],[]⟩=pure [(a0,x0),(a1,x1),(a2,x2)]:=by intros;rfl):∀ fd,Fun K x q st f fd->Binds K fd [a0,a1,a2] []:=fun _ F=>F.binds fun kV doc pm an cdv ct us hl=>by
 obtain⟨x0,x1,x2,rfl⟩:=SQ hl
 exact h kV doc pm an cdv ct x0 x1 x2
theorem ud {q a0 a1 a2 a3:VM}(h:∀ (kV doc pm:Value) (an:ID) (cdv ct x0 x1 x2 x3:Value),aaU (W.fnOf x q (gA st) (eN st) (aD st) .none kV doc pm an cdv ct) ⟨[x0,x1,x2,x3],[]⟩=pure [(a0,x0),(a1,x1),(a2,x2),(a3,x3)]:=by intros;rfl):∀ fd,Fun K x q st f fd->Binds K fd [a0,a1,a2,a3] []:=fun _ F=>F.binds fun kV doc pm an cdv ct us hl=>by
 obtain⟨x0,x1,x2,x3,rfl⟩:=R9 hl
 exact h kV doc pm an cdv ct x0 x1 x2 x3
theorem Qu {q a0 a1 a2 a3 a4:VM}(h:∀ (kV doc pm:Value) (an:ID) (cdv ct x0 x1 x2 x3 x4:Value),aaU (W.fnOf x q (gA st) (eN st) (aD st) .none kV doc pm an cdv ct) ⟨[x0,x1,x2,x3,x4],[]⟩=pure [(a0,x0),(a1,x1),(a2,x2),(a3,x3),(a4,x4)]:=by intros;rfl):∀ fd,Fun K x q st f fd->Binds K fd [a0,a1,a2,a3,a4] []:=fun _ F=>F.binds fun kV doc pm an cdv ct us hl=>by
 obtain⟨x0,x1,x2,x3,x4,rfl⟩:=SJ hl
 exact h kV doc pm an cdv ct x0 x1 x2 x3 x4
end
section
variable {X:Cx}{k j:Nat}{x m:VM}{C:Addr}{ps:IR}{sp:Sp}{p pos apos:YM}{o e:Expr}{es:IJ}{to:TE}{t:TA}{f:VM}
end
section
variable {prog:Uy}{w:Ve}{A:Vf}{E:Ix}{s:TF}
end
section
variable {X:Cx}
end
section
variable {P:Uy}{w:Ve}{K:UT}{mg:VM->Option Value}{base h:Vv}{x m q:VM}{st:Stmt}{C f:Addr}{ps:List VM}{sp:Sp}{k:Nat}
end
section
variable {X:Cx}{k j:Nat}{m:VM}{C:Addr}{ps:IR}{sp:Sp}{pos apos:YM}{o e:Expr}{es:IJ}{to:TE}{t:TA}{E:XK}
end
section
variable {P:Uy}{w:Ve}{K:UT}{mg:VM->Option Value}{base h:Vv}{x m q:VM}{st:Stmt}{C f:Addr}{ps:List VM}{sp:Sp}{k:Nat}
end
section
variable {X:Cx}
end
section
variable {K:UT}{mg:VM->IC}{h:Vv}{x q x' q':VM}{C fi C' fi' f c T:Addr}{st st':Stmt}{bm bm':IF}
end
section
variable {X:Cx}
end
section
variable {X:Cx}{ZY:Ic}{σ:St}{H H':Hp}{s s':TF}{x C G dx:Addr}{B:Vv}{c f:VM}{p p1 p4 pos:YM}{k:Nat}{D:Ends}{b:Bool}
end
section
variable {X:Cx}{G:Addr}{c f:VM}{p p1 p4 pos pos':YM}{k:Nat}{body:IL}{t:XK->TS}{b:Bool}
end
section
variable {X:Cx}
end
end L2
namespace My
open PySem L2
abbrev KU := List (List Key × V)
abbrev Lc := Option V
abbrev Lo := List V
abbrev XE : IQ := ["_law_cell_here","_law_n","_law_one","_law_deep","_law_most"]
abbrev XG : IQ := ["_law_book_here","_law_floor","_law_base","_law_crowd_here"]
abbrev XI : IQ := ["_law_cell_here","_law_n","_law_deep","_law_most"]
abbrev XO : IQ := ["_law_book_here","_law_floor","_law_giving_here"]
abbrev XT : IQ := ["_law_script","_law_start","_law_n","_law_most"]
abbrev XU : IQ := ["_law_book_here","_law_floor","_law_cell_here"]
abbrev XV : IQ := ["_law_cell_here","_law_n","_law_most"]
abbrev XW : IQ := ["_law_pledge_here","_law_giving_here"]
abbrev XY : IQ := ["_law_term_here","_law_giving_here"]
abbrev XZ : IQ := ["_law_book_here","_law_cell_here"]
abbrev X0 : IQ := ["pledges","low","step","giving"]
abbrev X1 : IQ := ["book","whole","crowd","giving"]
abbrev X2 : IQ := ["_law_some","_law_giving_here"]
abbrev X9 : IQ := ["book","sure","giving","known"]
abbrev Ya : IQ := ["_law_cell_here","_law_parts"]
abbrev Yf : IQ := ["_law_book_here","_law_floor"]
abbrev YA : IQ := ["_law_term_here","_law_row"]
abbrev YE : IQ := ["_law_script","_law_start"]
abbrev YI : IQ := ["_law_cell_here","_law_k"]
abbrev YN : IQ := ["_law_found","_law_due"]
abbrev YO : IQ := ["book","floor","giving"]
abbrev YR : IQ := ["giving","high","crowd"]
abbrev YU : IQ := ["_law_script","_law_k"]
abbrev YV : IQ := ["_law_number","_law_n"]
abbrev YY : IQ := ["book","sure","giving"]
abbrev Zl : IQ := ["book","floor","crowd"]
abbrev Zp : IQ := ["_law_giving_here"]
abbrev Zs : IQ := ["pledge","giving"]
abbrev ZA : IQ := ["_law_crowd_here"]
abbrev ZB : IQ := ["parts","giving"]
abbrev ZE : IQ := ["term","giving"]
abbrev ZH : IQ := ["sure","giving"]
abbrev ZI : IQ := ["book","floor"]
abbrev ZN : IQ := ["_law_script"]
abbrev ZO : IQ := ["_law_one"]
abbrev ZT : IQ := ["_law_k"]
abbrev ZU : IQ := ["pledge"]
variable {P:Uy}{w:Ve}{K:UT}{mg:VM->Option Value}{base:Vv}{f:Addr}{fd:Yi}
def top (i:Nat):Stmt:=PySem.Challenge.pw_loveboon_k56_whole_books_asked_by_turns.main.body.getD i (.Pass ⟨0,0,0,0⟩)
theorem aA {H:Hp}{p:Addr}(h:H p=none)(o:HO):aG H (upd H p o):=fun b u q=>by rw[aR (dC q h)];exact q
theorem aF {H H':Hp}{p:Addr}(s:aG H H')(h:H p=none)(o:HO):aG H (upd H' p o):=fun b u q=>by rw[aR (dC q h)];exact s b u q
theorem fL {K:UT}{H H':Hp}{a:Addr}{xs:Lo}(e:aG H H')(h:SqT K H a xs):SqT K H' a xs:=by
 rcases h with (h | ⟨o,h⟩) | h
 ·exact .inl (.inl (e _ _ h))
 ·exact .inl (.inr ⟨o,e _ _ h⟩)
 ·exact .inr h
theorem Gb {H:Hp}{p:Addr}{o o':HO}:upd (upd H p o) p o'=upd H p o':=by
 funext b
 unfold upd
 by_cases e:b=p
 ·rw[if_pos e,if_pos e]
 ·rw[if_neg e,if_neg e,if_neg e]
theorem small {n:Nat}(h:n<=1000):n<=sizeLine:=Yy (aB h)
theorem int_at {ns:IN}{i:Nat}{x:V}(h:(ns.map V.int)[i]? = some x):∃ n,ns[i]? = some n/\x = .int n:=by
 rw[Uo] at h
 cases e:ns[i]? with
 | none=>rw[e] at h;cases h
 | some n=>rw[e] at h;exact⟨n,U,(U4 h).symm⟩
theorem uv {α β:Type}(f:α->β){xs:List α}{i:Nat}{x:α}(h:xs[i]? = some x):(xs.take i).map f++[f x]=(xs.take (i+1)).map f:=by
 rw[Ux,h,T9]
 rfl
theorem jJ {ns:IN}{i:Nat}(h:i < ns.length):atI (ns.map V.int) (i:Int)=some (.int ns[i]):=gZ (by rw[Uo,TJ h];rfl)
theorem gT {i:Nat}{x:V}{σ:St}{H:Hp}{A B:St->Hp->Prop}(h:A (σ.set i (some x)) H):vg i x σ H (fun σ3 H3=>JC σ3 H3 (fun b H4=>if b=true then A σ3 H4 else B σ3 H4)):=by
 show if true=true then A (σ.set i (some x)) H else B (σ.set i (some x)) H
 rw[if_pos U]
 exact h
theorem aC {H H1:Hp}{p:Addr}{o:HO}(e:upd H p o=H1)(h:H p=none):aG H H1/\H1 p=some o:=by
 subst e
 exact⟨aA h _,aa⟩
theorem cV {xs:Lo}{k:Nat}{v:V}(h:xs[k]? = some v):atI xs (k:Int)=some v:=gZ h
theorem fG {ns:IN}{k:Nat}{n:Int}(h:ns[k]? = some n):(ns.map V.int)[k]? = some (.int n):=by rw[Uo,h];rfl
theorem tT {σ:St}{H:Hp}{A B:Hp->Prop}(h:A H):JC σ H (fun b H4=>if b=true then A H4 else B H4):=by
 show if true=true then A H else B H
 rw[if_pos U]
 exact h
theorem mV:∀ ns:IN,vA (ns.map Dm.int)=0
 | []=>by simp [vA]
 | n::r=>by simp [vA,Dm.dep,mV r]
theorem pI {H:Hp}{a:Addr}{ns:IN}(h:H a=some (.tup (ns.map V.int)))(l:ns.length<=1000):Rep H (.ref a) (.tup (ns.map Dm.int)):=.tup h (by rw[Tw];lia) (qZ ns)
def vN (i:Nat):V:=.int (i:Int)
theorem je (c:IP):c.map vN=(c.map fun i:Nat=>(i:Int)).map V.int:=by rw[W4];rfl
theorem pM {c:IP}{j:Nat}{x:V}(h:(c.map vN)[j]? = some x):∃ i,c[j]? = some i/\x=vN i:=by
 rw[Uo] at h
 cases e:c[j]? with
 | none=>rw[e] at h;cases h
 | some i=>rw[e] at h;exact⟨i,U,(U4 h).symm⟩
theorem bO {H:Hp}{D:Addr}{zs zs':Lo}(h:H D=some (.lst zs)):∀ a xs,H a=some (HO.tup xs)->upd H D (.lst zs') a=some (HO.tup xs):=fun a xs q=>by
 rw[aR (fun z=>by rw[z,h] at q;cases q)]
 exact q
theorem Bm {α:Type}{xs:List α}{v:α}(h:xs[xs.length - 1]? = some v):atI xs (-1)=some v:=by
 have hl:xs.length - 1 < xs.length:=(List.getElem?_eq_some_iff.mp h).1
 have hne:xs≠[]:=fun z=>by rw[z] at hl;exact absurd hl (Wq _)
 have e:xs=xs.dropLast++[v]:=by
  rw[← List.getLast?_eq_getElem?,abZ hne] at h
  rw[← U4 h]
  exact (ab6 hne).symm
 rw[e]
 exact Jx _ _
theorem gC {N P:IR}{sc:Yz}(h1:sc.kind = .function:=by rfl)(h2:sc.isCoroutine=false:=by rfl)(h3:sc.isGenerator=false:=by rfl)(h4:N.Nodup:=by decide+kernel)(h5:N.take P.length=P:=by rfl)(h6:∀ x∈P,sc.names.lookup x=some .local∨sc.names.lookup x=some .cell:=by decide+kernel)(h7:∀ y∈sc.names,y.2≠.free:=by decide+kernel):aK N P sc:=⟨h1,h2,h3,h4,h5,h6,h7⟩
theorem smN (n:Nat)(h:n<=1000:=by decide):n<=sizeLine:=small h
theorem gt0 {x:V}{r:Lo}:atI (x::r) 0=some x:=cV (k:=0) U
theorem gt1 {x y:V}{r:Lo}:atI (y::x::r) 1=some x:=cV (k:=1) U
theorem gt2 {x y z:V}{r:Lo}:atI (z::y::x::r) 2=some x:=cV (k:=2) U
theorem dcT {p:Prop}[Decidable p](h:p):decide p=true:=decide_eq_true h
theorem dcF {p:Prop}[Decidable p](h:¬ p):decide p=false:=decide_eq_false h
theorem sqT {K:UT}{H:Hp}{a:Addr}{xs:Lo}(h:H a=some (.tup xs)):SqT K H a xs:=SqT.of h
theorem sqL {K:UT}{H:Hp}{a:Addr}{xs:Lo}(h:H a=some (.lst xs)):SqL K H a xs:=SqL.of h
theorem geS {α:Type}{l:List α}{i:Nat}{a:α}(h:l[i]? = some a):∃ h:i < l.length,l[i]=a:=List.getElem?_eq_some_iff.mp h
theorem iPo {c:Prop}{h:Decidable c}(hc:c){α:Sort u}{t e:α}:@ite α c h t e=t:=if_pos hc
theorem iNe {c:Prop}{h:Decidable c}(hc:¬ c){α:Sort u}{t e:α}:@ite α c h t e=e:=if_neg hc
abbrev oR (a:Addr):Lc:=some (.ref a)
abbrev oI (i:Int):Lc:=some (.int i)
section
variable {X:Cx}{a b:Expr}{ta tb:TE}{pos:YM}{op:CmpOp}{r:R2}
theorem pix (hr:IxR X r)(ha:PE X a ta)(hb:PE X b tb)(hs:tR b:=by exact fun _ _=>U):PE X (.Subscript a b pos) (tOp r ta tb):=Jk hr ha hb hs
theorem dX (ho:OpR X (Wl op) r)(ha:PE X a ta)(hb:PE X b tb)(hm:Xf op b=false:=by exact Lb _):PE X (.Compare a [op] [b] pos) (tOp r ta tb):=HH ho ha hb hm
theorem aU (ho:OpR X (Wl op) r)(ha:PE X a ta)(hb:PE X b tb)(hm:Xf op b=false:=by exact Lb _):PT X (.Compare a [op] [b] pos) (Qc (tOp r ta tb)):=nQ ho ha hb hm
end
section
variable {x qual:VM}{st:Stmt}{N ps:IR}{k:Nat}{sp:Sp}
theorem okA (F:Fun K x qual st f fd)(S:aK N ps (aD st))
  (hb:∀ {cdv:Value} {A:Vf} {outer:IM} {s:TF} {vs:Lo} (H:Hp) (Q:VK) (E:XK),rm k (A.deeper (PyProof.Rows.envOfC qual (aD st) s.heap.objs.size f cdv))->sp vs H Q E →
   ∃ t,PSs (M8 CX0 P w K mg base N qual (aD st) f cdv A outer s H E).nox (eN st) t/\t { nx:=fun _ H2=>Q .non H2,rt:=Q } (start N vs) H)
  (len:∀ vs H Q E,sp vs H Q E->vs.length=ps.length:=by intro _ _ _ _ h;first | (cases h;subst_vars;rfl) | ((repeat obtain⟨_,h⟩:=h) <;> subst_vars <;> rfl)):dF P w K mg base CX0 (k+1) f fd ps sp:=F.ok S len fun _ _ _ _ H _ Q E hr h=>hb H Q E hr h
end
section
variable {X:Cx}{a b:Expr}{ta tb:TE}{pos:YM}
theorem pxL (K:UT)(ha:PE X a ta)(hb:PE X b tb)(hs:tR b:=by exact fun _ _=>U)(hK:X.K=K:=by rfl):PE X (.Subscript a b pos) (tOp (QT K) ta tb):=Jk (hK▸zM) ha hb hs
theorem pxT (K:UT)(ha:PE X a ta)(hb:PE X b tb)(hs:tR b:=by exact fun _ _=>U)(hK:X.K=K:=by rfl):PE X (.Subscript a b pos) (tOp (Rm K) ta tb):=Jk (hK▸Ku) ha hb hs
end
section
variable {X:Cx}{a b c:Expr}{ta tb tc:TE}{pos:YM}{x y z:VM}{p q r:YM}
theorem a1 (ha:PE X a ta)(hs:U9 [a] X.env=(false,W8 a X.env)::U9 [] X.env:=by rfl):PA X [a] (dI ta uz):=au ha cY hs
theorem a2 (ha:PE X a ta)(hb:PE X b tb)(hs:U9 [a,b] X.env=(false,W8 a X.env)::U9 [b] X.env:=by rfl)(ht:U9 [b] X.env=(false,W8 b X.env)::U9 [] X.env:=by rfl):PA X [a,b] (dI ta (dI tb uz)):=au ha (a1 hb ht) hs
theorem v1 (i:Nat)(hN:X.N[i]? = some x:=by rfl)(hv:Vis X.env.scope x:=by first | exact Zz rfl | exact Zm (Zz rfl) | exact Zm (Zm rfl))(hd:(x == ("__debug__" : VM))=false:=by decide)(hc:(x == ("__classdict__" : VM))=false:=by decide):PA X [.Name x p] (dI (lF i) uz):=a1 (pv i hN hv hd hc) rfl
theorem v2 (i j:Nat)(hN:X.N[i]? = some x:=by rfl)(hv:Vis X.env.scope x:=by first | exact Zz rfl | exact Zm (Zz rfl) | exact Zm (Zm rfl))(hM:X.N[j]? = some y:=by rfl)(hw:Vis X.env.scope y:=by first | exact Zz rfl | exact Zm (Zz rfl) | exact Zm (Zm rfl))(hd:(x == ("__debug__" : VM))=false:=by decide)(hc:(x == ("__classdict__" : VM))=false:=by decide)(he:(y == ("__debug__" : VM))=false:=by decide)(hf:(y == ("__classdict__" : VM))=false:=by decide):PA X [.Name x p,.Name y q] (dI (lF i) (dI (lF j) uz)):=a2 (pv i hN hv hd hc) (pv j hM hw he hf) rfl rfl
theorem sR (h:PE X a ta):PSs X [.Return (some a) pos] (Rj ta):=aO (La h)
theorem ifR {tt:TT}(ht:PT X a tt)(h:PE X b tb):PS X (.If a [.Return (some b) p] [] pos) (FT tt (Rj tb) Pn):=iz ht (sR h) cQ
theorem sT (i:Nat)(hN:X.N.Nodup)(he:PE X a ta)(hi:X.N[i]? = some x:=by rfl)(hx:X.env.scope.names.lookup x=some .local:=by rfl)(hs:aap a (some (.Name x p)) pos.line X.env=pure false:=by rfl):PS X (.Assign [.Name x p] a pos) (Q0 ta (vg i)):=KH hN hi (.inl hx) he hs (.inr hx)
theorem pgN (i:Nat)(hN:X.N.Nodup)(hi:X.N[i]? = some x:=by rfl)(hx:X.env.scope.names.lookup x=some .local:=by rfl):PG X (.Name x pos) (vg i):=qK hN hi (.inl hx) (.inr hx)
theorem sTc (i:Nat)(hN:X.N.Nodup)(he:PE X a ta)(hi:X.N[i]? = some x:=by rfl)(hx:X.env.scope.names.lookup x=some .cell:=by rfl)(hs:aap a (some (.Name x p)) pos.line X.env=pure false:=by rfl)(hf:X.fn x=true∨X.env.scope.names.lookup x=some .local:=by first | exact .inl rfl | exact .inr rfl | assumption):PS X (.Assign [.Name x p] a pos) (Q0 ta (vg i)):=KH hN hi (.inr hx) he hs hf
theorem pgC (i:Nat)(hN:X.N.Nodup:=by exact Ng (by decide+kernel))(hi:X.N[i]? = some x:=by rfl)(hx:Loc X.env.scope x:=by exact Zz U)(hf:X.fn x=true∨X.env.scope.names.lookup x=some .local:=by first | exact .inl rfl | exact .inr rfl | assumption):PG X (.Name x pos) (vg i):=qK hN hi hx hf
theorem pln (K:UT) (hm:X.mg "len" = none) (he:PE X a ta) (hg:Gl X "len":=by rfl) (hs:U9 [a] X.env=(false,W8 a X.env)::U9 [] X.env:=by rfl) (hK:X.K=K:=by rfl):PE X (.Call (.Name "len" p) [a] [] pos) (tCB (RZ K) (dI ta uz)):=by
 subst hK
 exact aL Fx hg hm Pj (a1 he hs) (by decide) (by decide) hs
end
abbrev kY:Stmt:=top 29
theorem bT:aK ["_law_cell_here","_law_parts","_law_one","_law_two","_law_six","_law_found","_law_part"] Ya (aD kY):=gC
def tX (c:Int):Int:=(c * 48271+11) % 2147483647
def Iw (c:Int):Int:=(tX c * tX c+40692 * tX c+c) % 2147483399
def Ri (c:Int):Int:=(Iw c * 16807+tX c) % 1000000007
def jq (c:Int):Int:=if decide ((if c < 0 then -c else c) < 10 ^ (18:Int).toNat)=true then Iw c+2147483399 * (Ri c+1000000007 * tX c) else (if c < 0 then -c else c) - 10 ^ (18:Int).toNat
def vB:Int->IN->IN
 | _,[]=>[]
 | c,p::ps=>c % p::vB (c / p) ps
def divC:Int->IN->Int
 | c,[]=>c
 | c,p::ps=>divC (c / p) ps
theorem qe (p:Int):∀ (ps:IN) (c:Int),vB c (ps++[p])=vB c ps++[divC c ps % p]
 | [],_=>rfl
 | q::ps,c=>by
  show c % q::vB (c / q) (ps++[p])=c % q::(vB (c / q) ps++[divC (c / q) ps % p])
  rw[qe p ps]
theorem mK (p:Int):∀ (ps:IN) (c:Int),divC c (ps++[p])=divC c ps / p
 | [],_=>rfl
 | q::ps,c=>mK p ps (c / q)
theorem ji:∀ (ps:IN) (c:Int),(vB c ps).length=ps.length
 | [],_=>rfl
 | _::ps,_=>congrArg Nat.succ (ji ps _)
theorem bA:∀ {ps:IN} {c:Int} {i:Nat} {p:Int},(∀ q∈ps,0 < q)->ps[i]? = some p->∃ v,(vB c ps)[i]? = some v/\0<=v/\v < p
 | [],_,_,_,_,h=>by simp at h
 | q::ps,c,0,p,hp,h=>by
  cases (show some q=some p from h)
  exact⟨c % q,U,Vp _ (by have:=hp q TY;lia),U7 _ (hp q TY)⟩
 | q::ps,c,i+1,p,hp,h=>by
  obtain⟨v,e,r⟩:=bA (ps:=ps) (c:=c / q) (i:=i) (fun z hz=>hp z (TX _ hz)) (by simpa using h)
  exact⟨v,by simpa [vB] using e,r⟩
def Ht (c:Int)(ps:IN):IN:=vB (jq c) ps
theorem Mz (c:Int):0<=tX c/\tX c < 2147483647:=⟨Vp _ (by decide),U7 _ (by decide)⟩
theorem Mv (c:Int):0<=Iw c/\Iw c < 2147483399:=⟨Vp _ (by decide),U7 _ (by decide)⟩
inductive jk (K:UT)(vs:Lo)(H:Hp)(Q:VK)(e3:XK):Prop where
 | mk (c:Int) (p:Addr) (ps:IN) (_:vs=[.int c,.ref p]) (_:SqL K H p (ps.map V.int)) (_:(∀ q∈ps,0 < q/\q < 1073741824)) (_:ps.length<=1000) (_:∀ r,H r=none->Q (.ref r) (upd H r (.lst ((Ht c ps).map V.int))))
theorem xW (F:Fun K "_law_draws" "_law_draws" kY f fd) (B:Bt mg) :
  dF P w K mg base CX0 1 f fd Ya (jk K):=by
 refine okA F bT fun H Q E hr h=>?_
 obtain⟨c,p,ps,rfl,hS,hp,hl,q⟩:=h
 refine⟨_,(aq (iz (aU Cv (aL pD U B.abs_ Aj (v1 0)) (aH rQ aj aj)) (aq (sT 2 bT.nd (aH cI (aH bF (aH gY (pv 0) aj) aj) aj))
 (aq (sT 3 bT.nd (aH cI (aH bF (aH bF (aH gY (pv 2) (pv 2)) (aH gY aj (pv 2))) (pv 0)) aj))
 (aq (sT 4 bT.nd (aH cI (aH bF (aH gY (pv 3) aj) (pv 2)) aj))
 (aO (sT 0 bT.nd (aH bF (pv 3) (aH gY aj (aH bF (pv 4) (aH gY aj (pv 2)))))))))) (aO (sT 0 bT.nd (aH oV (aL pD U B.abs_ Aj (v1 0)) (aH rQ aj aj)))))
 (aq (sT 5 bT.nd (aX cY))
 (aq (cW U3 U (cB (pv 1)) (pgN 6 bT.nd) (aq (cu (jF Uz Vb Va bI (pv 5) (a1 (aH cI (pv 0) (pv 6)))))
 (aO (sT 0 bT.nd (aH uU (pv 0) (pv 6))))))
 (sR (pv 5))))),?_⟩
 have b1:=Mz c
 have b2:=Mv c
 refine⟨_,U,_,U,_,_,U,U,⟨by decide,by decide,by decide⟩,_,_,U,U,_,U,?_⟩
 refine DK (fun h=>?_) (fun h=>?_)
 ·refine⟨_,U,_,_,U,U,.inr ⟨by decide,by decide⟩,_,_,U,U,_,_,U,U,(by show (0:Int) < 2147483647;decide),_,U,_,U,_,_,U,U,.inl (show -(2 ^ 64) < tX c/\tX c < 2 ^ 64 from ⟨by lia,by lia⟩),_,U,_,_,U,U,.inl ⟨by decide,by decide⟩,_,_,U,U,_,U,_,_,U,U,_,_,U,U,(by show (0:Int) < 2147483399;decide),_,U,_,_,U,U,.inr ⟨by decide,by decide⟩,_,U,_,_,U,U,_,_,U,U,(by show (0:Int) < 1000000007;decide),_,U,_,U,_,U,_,_,U,U,.inl ⟨by decide,by decide⟩,_,_,U,U,_,_,U,U,.inl ⟨by decide,by decide⟩,_,_,U,U,small (Uw _),fun r hr0=>?_⟩
  refine⟨_,U,p,U,⟨_,(aA hr0 _).seq hS⟩,jb (K:=K) (a:=p) (xs:=ps.map V.int) (fun i σ H2=>∃ (z:Int) (o t u v:Lc),z=divC (jq c) (ps.take i)/\σ=[oI z,oR p,o,t,u,oR r,v] ∧
   H2=upd H r (.lst ((vB (jq c) (ps.take i)).map V.int))) ⟨_,_,_,_,_,(iPo h).symm,U,U⟩ ?_ ?_ ?_⟩
  ·rintro i σ H2 hi ⟨z,o,t,u,v,_,_,e⟩
   subst e
   exact (aA hr0 _).seq hS
  ·rintro i x σ H2 hx ⟨z,o,t,u,v,ez,rfl,rfl⟩
   obtain⟨d,hd,rfl⟩:=int_at hx
   obtain⟨h1,h2⟩:=hp d (Ud hd)
   have et:ps.take (i+1)=ps.take i++[d]:=by rw[Ux,hd];rfl
   refine⟨_,U,.inl ⟨U,_,sqL aa⟩,_,U,_,U,_,_,U,U,h1,r,_,_,U,U,aa,?_,_,U,_,U,_,_,U,U,⟨h1,h2⟩,_,_,_,_,_,?_,U,?_⟩
   ·rw[Tw,ji,Uj]
    exact aB (by lia)
   ·rw[et,mK,ez]
   ·rw[Gb,et,qe,T9,ez]
    rfl
  ·rintro σ H2 ⟨z,o,t,u,v,_,rfl,rfl⟩
   refine⟨_,U,?_⟩
   have q':=q r hr0
   rw[Tw,Ul]
   exact q'
 ·refine⟨_,U,_,U,_,_,U,U,⟨by decide,by decide,by decide⟩,_,_,U,U,small (Uw _),fun r hr0=>?_⟩
  refine⟨_,U,p,U,⟨_,(aA hr0 _).seq hS⟩,jb (K:=K) (a:=p) (xs:=ps.map V.int) (fun i σ H2=>∃ (z:Int) (o t u v:Lc),z=divC (jq c) (ps.take i)/\σ=[oI z,oR p,o,t,u,oR r,v] ∧
   H2=upd H r (.lst ((vB (jq c) (ps.take i)).map V.int))) ⟨_,_,_,_,_,(iNe h).symm,U,U⟩ ?_ ?_ ?_⟩
  ·rintro i σ H2 hi ⟨z,o,t,u,v,_,_,e⟩
   subst e
   exact (aA hr0 _).seq hS
  ·rintro i x σ H2 hx ⟨z,o,t,u,v,ez,rfl,rfl⟩
   obtain⟨d,hd,rfl⟩:=int_at hx
   obtain⟨h1,h2⟩:=hp d (Ud hd)
   have et:ps.take (i+1)=ps.take i++[d]:=by rw[Ux,hd];rfl
   refine⟨_,U,.inl ⟨U,_,sqL aa⟩,_,U,_,U,_,_,U,U,h1,r,_,_,U,U,aa,?_,_,U,_,U,_,_,U,U,⟨h1,h2⟩,_,_,_,_,_,?_,U,?_⟩
   ·rw[Tw,ji,Uj]
    exact aB (by lia)
   ·rw[et,mK,ez]
   ·rw[Gb,et,qe,T9,ez]
    rfl
  ·rintro σ H2 ⟨z,o,t,u,v,_,rfl,rfl⟩
   refine⟨_,U,?_⟩
   have q':=q r hr0
   rw[Tw,Ul]
   exact q'
abbrev nF:Stmt:=top 28
theorem yD:aK YU YU (aD nF):=gC
inductive Gg (K:UT)(vs:Lo)(H:Hp)(Q:VK)(e3:XK):Prop where
 | mk (a:Addr) (ns:IN) (k:Nat) (_:vs=[.ref a,.int (k:Int)]) (_:SqL K H a (ns.map V.int)) (_:Q (.int (ns.getD k 0)) H)
theorem zQ (F:Fun K "_law_cell" "_law_cell" nF f fd) (B:Bt mg) :
  dF P w K mg base CX0 1 f fd YU (Gg K):=by
 refine okA F yD fun H Q E hr h=>?_
 obtain⟨a,ns,k,rfl,hS,q⟩:=h
 refine⟨_,(aq (ifR (aU Cv (pv 1) (pln K B.len_ (pv 0))) (pxL K (pv 0) (pv 1)))
 (sR aj)),?_⟩
 refine⟨_,U,_,U,a,_,U,.inl hS,_,_,U,U,_,U,?_⟩
 have el:(((ns.map V.int).length:Nat):Int)=(ns.length:Int):=by rw[Tw]
 rw[el]
 refine DK (fun c=>?_) (fun c=>?_)
 ·have c':(k:Int) < (ns.length:Int):=of_decide_eq_true c
  have hk:k < ns.length:=by lia
  refine⟨_,U,_,U,a,_,_,_,U,U,hS,jJ hk,?_⟩
  rw[TQ,TJ hk] at q
  exact q
 ·have c':¬ (k:Int) < (ns.length:Int):=fun z=>c (dcT z)
  have hk:ns.length<=k:=by lia
  rw[TQ,Vz hk] at q
  exact q
abbrev jK:Stmt:=top 38
theorem uO:aK XV XV (aD jK):=gC
def PB (c:Int)(n:Nat)(m:Int):IN:=Ht c (Ur n (m+1))
theorem lR (c:Int)(n:Nat)(m:Int):(PB c n m).length=n:=by
 unfold PB Ht
 rw[ji,We]
theorem Ke {c:Int}{n:Nat}{m:Int}(hm:0<=m){i:Nat}(hi:i < n):∃ v,(PB c n m)[i]? = some v/\0<=v/\v<=m:=by
 obtain⟨v,e,b1,b2⟩:=bA (ps:=Ur n (m+1)) (c:=jq c) (i:=i) (p:=m+1) (fun q hq=>by rw[List.mem_replicate] at hq;lia) (by rw[Y5,iPo hi])
 exact⟨v,e,b1,by lia⟩
inductive Ax (vs:Lo)(H:Hp)(Q:VK)(e3:XK):Prop where
 | mk (c:Int) (n:Nat) (m:Int) (_:vs=[.int c,.int (n:Int),.int m]) (_:n<=1000) (_:0<=m) (_:m<=1000000) (_:∀ (r:Addr) (H':Hp),aG H H'->H r=none->H' r=some (.tup ((PB c n m).map V.int))->Q (.ref r) H')
theorem BL (z:Int)(n:Nat):(Ur n [V.int z]).flatten=(Ur n z).map V.int:=by
 induction n with
 | zero=>rfl
 | succ n ih=>rw[WR,Zc,ih,WR];rfl
theorem uV (F:Fun K "_law_giving" "_law_giving" jK f fd) (B:Bt mg)
  (VT:Df P w K mg base "_law_draws" 1 Ya (jk K)):dF P w K mg base CX0 2 f fd XV Ax:=by
 refine okA F uO fun H Q E hr h=>?_
 obtain⟨c,n,m,rfl,hn,h0,h1,q⟩:=h
 refine⟨_,(sR (bG (r:=fH K) bw U B.tuple_ bW (a1 (aP VT hr (au (pv 0) (a1 (aH Pb (aX (a1 (aH bF (pv 2) aj))) (pv 1)))))))),_,U,_,U,_,_,U,U,smN 1,fun p1 h1'=>?_⟩
 generalize eH1:upd H p1 _=H1
 obtain⟨g1,e1⟩:=aC eH1 h1'
 have et:((n:Int)).toNat=n:=UL n
 refine⟨_,U,p1,_,_,U,U,e1,by lia,by lia,?_,fun p2 h2=>?_⟩
 ·rw[et]
  show 1 * n<=sizeLine
  exact small (by lia)
 rw[et,BL]
 generalize eH2:upd H1 p2 _=H2
 obtain⟨g2,e2⟩:=aC eH2 h2
 refine⟨c,p2,Ur n (m+1),U,sqL e2,fun z hz=>?_,?_,fun p3 h3=>?_⟩
 ·rw[List.mem_replicate] at hz
  lia
 ·rw[We]
  exact hn
 generalize eH3:upd H2 p3 _=H3
 obtain⟨g3,e3⟩:=aC eH3 h3
 refine⟨p3,_,U,.inl ⟨sqL e3,fun p4 h4=>?_⟩⟩
 exact q p4 _ (g1.trans (g2.trans (g3.trans (aA h4 _)))) ((g1.trans (g2.trans g3)).free h4) aa
abbrev mW:Stmt:=top 30
theorem zE:aK YN YN (aD mW):=gC
inductive sY (n:Nat)(vs:Lo)(H:Hp)(Q:VK)(e3:XK):Prop where
 | mk (x y:V) (d:Dm) (_:vs=[x,y]) (_:Rep H x d) (_:Rep H y d) (_:d.dep < n) (_:∀ H',aG H H'->Q (.bl true) H')
theorem Rk {x:V}:decide (x=x)=true:=dcT U
theorem Bb (n:Nat):(Ur n true).all (fun b=>b)=true:=by
 induction n with
 | zero=>rfl
 | succ n ih=>rw[WR,Zr,ih];rfl
theorem zV (n:Nat):(Ur n true).map V.bl=Ur n (V.bl true):=List.map_replicate
theorem jt {n:Nat} (F:Fun K "_law_same" "_law_same" mW f fd) (B:Bt mg)
  (WF:Df P w K mg base "_law_same" n YN (sY n)):dF P w K mg base CX0 (n+1) f fd YN (sY (n+1)):=by
 refine okA F zE fun H Q E hr h=>?_
 obtain⟨x,y,d,rfl,rx,ry,hd,q⟩:=h
 refine⟨_,(aq (ifR (Gi (Ko (pv 1))) (Ph (Ko (pv 0))))
 (aq (ifR (iQ (aL (r:=HX K) eY U B.isinstance_ bH (au (pv 1) (a1 (rN B.str_ Kv))))) (wI (aL (r:=HX K) eY U B.isinstance_ bH (au (pv 0) (a1 (rN B.str_ Kv)))) (xr (dX dg (pv 0) (pv 1)))))
 (aq (ifR (iQ (aL (r:=HX K) eY U B.isinstance_ bH (au (pv 1) (a1 (rN B.int_ zX))))) (wI (aL (r:=HX K) eY U B.isinstance_ bH (au (pv 0) (a1 (rN B.int_ zX)))) (wI (dX dg (aL (r:=HX K) eY U B.isinstance_ bH (au (pv 0) (a1 (rN B.bool_ Hh)))) (aL (r:=HX K) eY U B.isinstance_ bH (au (pv 1) (a1 (rN B.bool_ Hh))))) (xr (dX dg (pv 0) (pv 1))))))
 (aq (ifR (PW.pt (Mt (aU O9 (aL (r:=HX K) eY U B.isinstance_ bH (au (pv 1) (a1 (rN B.list_ yK)))) (aL (r:=HX K) eY U B.isinstance_ bH (au (pv 0) (a1 (rN B.list_ yK))))) (DY (aU O9 (aL (r:=HX K) eY U B.isinstance_ bH (au (pv 1) (a1 (rN B.tuple_ bW)))) (aL (r:=HX K) eY U B.isinstance_ bH (au (pv 0) (a1 (rN B.tuple_ bW)))))))) mF)
 (sR (wI (dX dg (pln K B.len_ (pv 0)) (pln K B.len_ (pv 1))) (xr (aL (r:=GX K) (lY U) U B.all_ Az (a1 (bh (L:=ZT) (F:=YN) (cap:=[0,1]) U (aV U U (by kernel_rfl)) (bM U B.range_ (a1 (pln K B.len_ (pv 1)))) (fun _ _ _ _ _=>(pgC 0)) (fun _ _ _ _ _=>bu) (fun _ _ _ _ _=>(aP WF hr (au (pix (r:=rIx K) KJ (pv 1) (pv 0)) (a1 (pix (r:=rIx K) KJ (pv 2) (pv 0)))))))))))))))),?_⟩
 cases rx with
 | non =>
  cases ry
  exact⟨_,U,_,U,gF ⟨_,U,q H (aG.refl H)⟩⟩
 | bl b =>
  cases ry
  refine⟨_,U,_,U,fC ⟨_,U,_,_,_,_,U,.bl b,yR _,_,U,fC ⟨_,U,_,_,_,_,U,.bl b,qd _,_,U,gF ⟨_,U,_,_,_,_,U,.bl b,qd _,_,U,gF ⟨_,U,_,_,_,_,U,.bl b,rH _ _,_,U,_,_,_,_,U,.bl b,rH _ _,U,_,U,gF ⟨_,U,_,U,U,?_⟩⟩⟩⟩⟩⟩
  have q':=q H (aG.refl H)
  rw[← Rk (x:=V.bl b)] at q'
  exact q'
 | int i =>
  cases ry
  refine⟨_,U,_,U,fC ⟨_,U,_,_,_,_,U,.int i,Di _,_,U,fC ⟨_,U,_,_,_,_,U,.int i,rH _ _,_,U,gF ⟨_,U,_,_,_,_,U,.int i,rH _ _,_,U,gF ⟨_,U,_,_,_,_,U,.int i,pL _,_,U,_,_,_,_,U,.int i,pL _,U,_,U,gF ⟨_,U,_,U,U,?_⟩⟩⟩⟩⟩⟩
  have q':=q H (aG.refl H)
  rw[← Rk (x:=V.int i)] at q'
  exact q'
 | str z =>
  cases ry
  refine⟨_,U,_,U,fC ⟨_,U,_,_,_,_,U,.str z,rH _ _,_,U,gF ⟨_,U,_,_,_,_,U,.str z,rH _ _,_,U,gF ⟨_,U,_,U,U,?_⟩⟩⟩⟩
  have q':=q H (aG.refl H)
  rw[← Rk (x:=V.str z)] at q'
  exact q'
 | @tup a xs ds ha la ra =>
  cases ry with
  | @tup b ys _ hb lb rb =>
   have ex:=ra.length
   have ey:=rb.length
   have hdl:vA ds < n:=by
    have hd':vA ds+1 < n+1:=by rw[Dm.dep] at hd;exact hd
    lia
   refine⟨_,U,_,U,fC ⟨_,U,_,_,_,_,U,.tup hb,wZ _,_,U,fC ⟨_,U,_,_,_,_,U,.tup hb,vJ _,_,U,fC ⟨_,U,_,_,_,_,U,.tup hb,mJ _,_,U,_,_,_,_,U,.tup ha,mJ _,U,_,U,fC ⟨_,U,_,_,_,_,U,.tup hb,rH _ _,_,U,_,_,_,_,U,.tup ha,rH _ _,U,_,U,fC ⟨_,U,a,_,U,.inr (sqT ha),_,U,b,_,U,.inr (sqT hb),U,_,U,?_⟩⟩⟩⟩⟩⟩
   have ec:decide (V.int (xs.length:Int)=V.int (ys.length:Int))=true:=dcT (by rw[ex,ey])
   rw[ec]
   refine gF ?_
   refine⟨_,U,b,_,U,.inr (sqT hb),_,U,by lia,by lia,fun D hD=>dH (lo:=0) (n:=ys.length) (fun i zs σ' H2=>(∃ v,σ'=[v,oR a,oR b])/\zs=Ur i (V.bl true)/\aG H H2/\H2 D=some (.lst zs))
    ⟨⟨_,U⟩,U,aA hD _,aa⟩ (fun i zs σ' H2 _ h=>h.2.2.2) ?_ ?_⟩
   ·rintro i zs σ' H2 hi ⟨⟨v,rfl⟩,rfl,sm,hDl⟩
    obtain⟨v1,d1,e1,e2,r1⟩:=ra.get (i:=i) (by lia)
    obtain⟨v2,d2,e3,e4,r2⟩:=rb.get (i:=i) hi
    rw[e2] at e4
    cases e4
    have at1:atI xs (0+(i:Int))=some v1:=by rw[Wt];exact gZ e1
    have at2:atI ys (0+(i:Int))=some v2:=by rw[Wt];exact gZ e3
    refine gT ?_
    refine⟨_,U,_,U,.inr (.inl ⟨a,xs,_,v1,U,U,sqT (sm _ _ ha),at1,_,U,_,U,.inr (.inl ⟨b,ys,_,v2,U,U,sqT (sm _ _ hb),at2,v1,v2,d1,U,r1.mono sm,r2.mono sm,?_,fun H3 s3=>⟨s3 _ _ hDl,?_,⟨_,U⟩,?_,aF (sm.trans s3) hD _,aa⟩⟩)⟩)⟩
    ·exact X8 (vp e2) hdl
    ·rw[We]
     exact Us (show i < 100000 by lia) (by decide)
    ·rw[aaW]
   ·rintro zs σ' H2 ⟨_,rfl,sm,hDl⟩
    refine⟨D,Ur ys.length true,U,sqL (by rw[hDl,zV]),?_⟩
    rw[Bb]
    exact q _ sm
 | @lst a xs ds ha la ra =>
  cases ry with
  | @lst b ys _ hb lb rb =>
   have ex:=ra.length
   have ey:=rb.length
   have hdl:vA ds < n:=by
    have hd':vA ds+1 < n+1:=by rw[Dm.dep] at hd;exact hd
    lia
   refine⟨_,U,_,U,fC ⟨_,U,_,_,_,_,U,.lst hb,yI _,_,U,fC ⟨_,U,_,_,_,_,U,.lst hb,zg _,_,U,fC ⟨_,U,_,_,_,_,U,.lst hb,rH _ _,_,U,_,_,_,_,U,.lst ha,rH _ _,U,_,U,fC ⟨_,U,_,_,_,_,U,.lst hb,mj _,_,U,_,_,_,_,U,.lst ha,mj _,U,_,U,fC ⟨_,U,a,_,U,.inl (sqL ha),_,U,b,_,U,.inl (sqL hb),U,_,U,?_⟩⟩⟩⟩⟩⟩
   have ec:decide (V.int (xs.length:Int)=V.int (ys.length:Int))=true:=dcT (by rw[ex,ey])
   rw[ec]
   refine gF ?_
   refine⟨_,U,b,_,U,.inl (sqL hb),_,U,by lia,by lia,fun D hD=>dH (lo:=0) (n:=ys.length) (fun i zs σ' H2=>(∃ v,σ'=[v,oR a,oR b])/\zs=Ur i (V.bl true)/\aG H H2/\H2 D=some (.lst zs))
    ⟨⟨_,U⟩,U,aA hD _,aa⟩ (fun i zs σ' H2 _ h=>h.2.2.2) ?_ ?_⟩
   ·rintro i zs σ' H2 hi ⟨⟨v,rfl⟩,rfl,sm,hDl⟩
    obtain⟨v1,d1,e1,e2,r1⟩:=ra.get (i:=i) (by lia)
    obtain⟨v2,d2,e3,e4,r2⟩:=rb.get (i:=i) hi
    rw[e2] at e4
    cases e4
    have at1:atI xs (0+(i:Int))=some v1:=by rw[Wt];exact gZ e1
    have at2:atI ys (0+(i:Int))=some v2:=by rw[Wt];exact gZ e3
    refine gT ?_
    refine⟨_,U,_,U,.inl ( ⟨a,xs,_,v1,U,U,sqL (sm _ _ ha),at1,_,U,_,U,.inl ( ⟨b,ys,_,v2,U,U,sqL (sm _ _ hb),at2,v1,v2,d1,U,r1.mono sm,r2.mono sm,?_,fun H3 s3=>⟨s3 _ _ hDl,?_,⟨_,U⟩,?_,aF (sm.trans s3) hD _,aa⟩⟩)⟩)⟩
    ·exact X8 (vp e2) hdl
    ·rw[We]
     exact Us (show i < 100000 by lia) (by decide)
    ·rw[aaW]
   ·rintro zs σ' H2 ⟨_,rfl,sm,hDl⟩
    refine⟨D,Ur ys.length true,U,sqL (by rw[hDl,zV]),?_⟩
    rw[Bb]
    exact q _ sm
theorem same_none:dF P w K mg base CX0 0 f fd YN (sY 0):=by
 have no:∀ vs H Q E,¬ sY 0 vs H Q E:=fun vs H Q E h=>by
  obtain⟨x,y,d,_,_,_,h1,_⟩:=h
  lia
 exact⟨fun vs H Q E h=>absurd h (no vs H Q E),fun A outer s H args us vs Q E _ _ _ _ h=>absurd h (no vs H Q E)⟩
abbrev kO:Stmt:=top 31
theorem gO:aK ["_law_cell_here","_law_k","_law_rest","_law_turn"] YI (aD kO):=gC
def Mx (c:Int)(k:Nat):Int:=if decide ((if c < 0 then -c else c) < 10 ^ (18:Int).toNat)=true then (c * 48271+7919 * (k:Int)+13) % 2147483647 else 10 ^ (18:Int).toNat+divC ((if c < 0 then -c else c) - 10 ^ (18:Int).toNat) (Ur (k+1) (10 ^ (9:Int).toNat))
inductive tU (vs:Lo)(H:Hp)(Q:VK)(e3:XK):Prop where
 | mk (c:Int) (k:Nat) (_:vs=[.int c,.int (k:Int)]) (_:k<=1000) (_:Q (.int (Mx c k)) H)
theorem wN (F:Fun K "_law_under" "_law_under" kO f fd) (B:Bt mg) :
  dF P w K mg base CX0 1 f fd YI tU:=by
 refine okA F gO fun H Q E hr h=>?_
 obtain⟨c,k,rfl,hk,q⟩:=h
 refine⟨_,(aq (ifR (aU Cv (aL pD U B.abs_ Aj (v1 0)) (aH rQ aj aj)) (aH cI (aH bF (aH bF (aH gY (pv 0) aj) (aH gY aj (pv 1))) aj) aj))
 (aq (sT 2 gO.nd (aH oV (aL pD U B.abs_ Aj (v1 0)) (aH rQ aj aj)))
 (aq (cW U3 U (bM U B.range_ (a1 (aH bF (pv 1) aj))) (pgN 3 gO.nd) (aO (sT 2 gO.nd (aH uU (pv 2) (aH rQ aj aj)))))
 (sR (aH bF (aH rQ aj aj) (pv 2)))))),?_⟩
 refine⟨_,U,_,U,_,_,U,U,⟨by decide,by decide,by decide⟩,_,_,U,U,_,U,?_⟩
 refine DK (fun h=>?_) (fun h=>?_)
 ·refine⟨_,U,_,_,U,U,.inr ⟨by decide,by decide⟩,_,U,_,_,U,U,.inl ⟨by decide,by decide⟩,_,_,U,U,_,_,U,U,_,_,U,U,(by show (0:Int) < 2147483647;decide),?_⟩
  unfold Mx at q
  rw[iPo h] at q
  exact q
 ·unfold Mx at q
  rw[iNe h] at q
  refine⟨_,U,_,U,_,_,U,U,⟨by decide,by decide,by decide⟩,_,_,U,U,?_⟩
  have ek:((k:Int)+1).toNat=k+1:=by lia
  refine⟨_,U,_,_,U,U,_,U,by lia,by lia,fc (lo:=0) (n:=((k:Int)+1).toNat) (fun i σ H2=>(∃ t:Lc,σ=[oI c,some (.int (k:Int)),some (.int (divC ((if c < 0 then -c else c) - 10 ^ (18:Int).toNat) (Ur i (10 ^ (9:Int).toNat)))),t])/\H2=H) ⟨⟨_,U⟩,U⟩ ?_ ?_⟩
  ·rintro i σ H2 hi ⟨⟨t,rfl⟩,rfl⟩
   refine⟨_,U,_,_,U,U,⟨by decide,by decide,by decide⟩,_,_,U,U,⟨by show (0:Int) < 10 ^ 9;decide,by show (10 ^ 9:Int) < 1073741824;decide⟩,⟨some (.int (0+(i:Int))),?_⟩,U⟩
   rw[aaW,mK]
   rfl
  ·rintro σ H2 ⟨⟨t,rfl⟩,rfl⟩
   refine⟨_,_,U,U,⟨by decide,by decide,by decide⟩,_,U,_,_,U,U,?_⟩
   rw[ek]
   exact q
abbrev kE:Stmt:=top 32
theorem gR:aK ["_law_number","_law_n","_law_found","_law_one"] YV (aD kE):=gC
inductive yc (vs:Lo)(H:Hp)(Q:VK)(e3:XK):Prop where
 | mk (m:Int) (n:Nat) (_:vs=[.int m,.int (n:Int)]) (_:n<=100) (_:∀ (c:IP) (r:Addr) (H':Hp),(∀ i∈c,i < n)->c.Pairwise (· < ·)->c.length<=n->aG H H'->H r=none->H' r=some (.tup (c.map vN))->Q (.ref r) H')
theorem xF (F:Fun K "_law_crowd" "_law_crowd" kE f fd) (B:Bt mg) :
  dF P w K mg base CX0 1 f fd YV yc:=by
 refine okA F gR fun H Q E hr h=>?_
 obtain⟨m,n,rfl,hn,q⟩:=h
 refine⟨_,(aq (sT 2 gR.nd (aX cY))
 (aq (cW U3 U (bM U B.range_ (v1 1)) (pgN 3 gR.nd) (aq (iz (aU dg (aH cI (pv 0) aj) aj) (aO (cu (jF Uz Vb Va bI (pv 2) (v1 3)))) cQ)
 (aO (sT 0 gR.nd (aH uU (pv 0) aj)))))
 (sR (bG (r:=fH K) bw U B.tuple_ bW (v1 2))))),?_⟩
 refine⟨smN 0,fun r hr0=>?_⟩
 have en:((n:Int)).toNat=n:=UL n
 refine⟨_,U,_,U,by lia,by lia,fc (lo:=0) (n:=((n:Int)).toNat) (fun i σ H2=>∃ (z:Int) (t:Lc) (c:IP),σ=[oI z,some (.int (n:Int)),oR r,t]/\H2=upd H r (.lst (c.map vN))/\(∀ j∈c,j < i)/\c.Pairwise (· < ·)/\c.length<=i)
  ⟨_,_,[],U,U,by simp,by simp,Ua _⟩ ?_ ?_⟩
 ·rintro i σ H2 hi ⟨z,t,c,rfl,rfl,hc,hp,hl⟩
  refine⟨_,U,_,_,U,U,(by show (0:Int) < 2;decide),U,_,U,?_⟩
  refine DK (fun _=>?_) (fun _=>?_)
  ·refine⟨_,U,.inl ⟨U,_,sqL aa⟩,_,U,r,_,_,U,U,aa,?_,_,U,_,_,U,U,⟨by decide,by decide⟩,_,_,c++[i],U,?_,?_,?_,?_⟩
   ·rw[Tw]
    exact aB (by lia)
   ·rw[Gb,T9,Wt]
    rfl
   ·intro j hj
    rcases List.mem_append.mp hj with h | h
    ·have:=hc j h
     lia
    ·have:=List.mem_singleton.mp h
     lia
   ·rw[Xw]
    refine⟨hp,by simp,fun a ha b hb=>?_⟩
    rw[List.mem_singleton.mp hb]
    exact hc a ha
   ·rw[Uh]
    show c.length+1<=i+1
    lia
  ·refine⟨_,U,_,_,U,U,⟨by decide,by decide⟩,_,_,c,U,U,fun j hj=>Vi (hc j hj),hp,by lia⟩
 ·rintro σ H2 ⟨z,t,c,rfl,rfl,hc,hp,hl⟩
  refine⟨_,U,r,_,U,.inl ⟨sqL aa,fun l hl'=>?_⟩⟩
  rw[en] at hc hl
  exact q c l _ hc hp hl ((aA hr0 _).trans (aA hl' _)) ((aA hr0 _).free hl') aa
inductive Tm where
 | free | never | gives (i:Nat) (k:Int) | sum (c:IP) (k:Int) | crowd (c:IP) (k m:Int) | all (ts:List Tm) | any (ts:List Tm)
mutual
def Tm.dep:Tm->Nat
 | .all ts=>tdL ts+1
 | .any ts=>tdL ts+1
 | _=>1
def tdL:List Tm->Nat
 | []=>0
 | t::r=>max t.dep (tdL r)
end
mutual
def hF (g:IN):Tm->Bool
 | .free=>true
 | .never=>false
 | .gives i k=>decide (k<=g.getD i 0)
 | .sum c k=>decide (k<=(c.map fun i=>g.getD i 0).sum)
 | .crowd c k m=>decide (m<=((c.filter fun i=>decide (k<=g.getD i 0)).length:Int))
 | .all ts=>rC g ts
 | .any ts=>rB g ts
def rC (g:IN):List Tm->Bool
 | []=>true
 | t::r=>hF g t && rC g r
def rB (g:IN):List Tm->Bool
 | []=>false
 | t::r=>hF g t || rB g r
end
mutual
inductive oG (n:Nat)(H:Hp):V->Tm->Prop where
 | free {a:Addr}:H a=some (.tup [.str "free"])->oG n H (.ref a) .free
 | never {a:Addr}:H a=some (.tup [.str "never"])->oG n H (.ref a) .never
 | gives {a:Addr} {i:Nat} {k:Int}:H a=some (.tup [.str "gives",vN i,.int k])->i < n->1<=k->k<=9->oG n H (.ref a) (.gives i k)
 | sum {a b:Addr} {c:IP} {k:Int}:H a=some (.tup [.str "sum",.ref b,.int k])->H b=some (.tup (c.map vN))->(∀ i∈c,i < n)->c.Pairwise (· < ·)->c.length<=20->2<=c.length->1<=k->k<=99->oG n H (.ref a) (.sum c k)
 | crowd {a b:Addr} {c:IP} {k m:Int}:H a=some (.tup [.str "crowd",.ref b,.int k,.int m])->H b=some (.tup (c.map vN))->(∀ i∈c,i < n)->c.Pairwise (· < ·)->c.length<=20->1<=c.length->1<=k->k<=9->1<=m->m<=12->oG n H (.ref a) (.crowd c k m)
 | all {a b:Addr} {vs:Lo} {ts:List Tm}:H a=some (.tup [.str "all",.ref b])->H b=some (.tup vs)->2<=vs.length->vs.length<=6->dJ n H vs ts->oG n H (.ref a) (.all ts)
 | any {a b:Addr} {vs:Lo} {ts:List Tm}:H a=some (.tup [.str "any",.ref b])->H b=some (.tup vs)->2<=vs.length->vs.length<=6->dJ n H vs ts->oG n H (.ref a) (.any ts)
inductive dJ (n:Nat)(H:Hp):Lo->List Tm->Prop where
 | nil:dJ n H [] []
 | cons {v:V} {t:Tm} {vs:Lo} {ts:List Tm}:oG n H v t->dJ n H vs ts->dJ n H (v::vs) (t::ts)
end
mutual
theorem oG.aY {n:Nat}{H H':Hp}(e:∀ a xs,H a=some (HO.tup xs)->H' a=some (HO.tup xs)):∀ {v:V} {t:Tm},oG n H v t->oG n H' v t
 | _,_,.free h=>.free (e _ _ h)
 | _,_,.never h=>.never (e _ _ h)
 | _,_,.gives h a b c=>.gives (e _ _ h) a b c
 | _,_,.sum h h2 a b c d f g=>.sum (e _ _ h) (e _ _ h2) a b c d f g
 | _,_,.crowd h h2 a b c d f g i j=>.crowd (e _ _ h) (e _ _ h2) a b c d f g i j
 | _,_,.all h h2 a b r=>.all (e _ _ h) (e _ _ h2) a b (dJ.aY e r)
 | _,_,.any h h2 a b r=>.any (e _ _ h) (e _ _ h2) a b (dJ.aY e r)
theorem dJ.aY {n:Nat}{H H':Hp}(e:∀ a xs,H a=some (HO.tup xs)->H' a=some (HO.tup xs)):∀ {vs:Lo} {ts:List Tm},dJ n H vs ts->dJ n H' vs ts
 | _,_,.nil=>.nil
 | _,_,.cons h r=>.cons (oG.aY e h) (dJ.aY e r)
end
theorem oG.mono {n:Nat}{H H':Hp}(e:aG H H'){v:V}{t:Tm}(h:oG n H v t):oG n H' v t:=h.aY fun a xs q=>e a _ q
theorem dJ.mono {n:Nat}{H H':Hp}(e:aG H H'){vs:Lo}{ts:List Tm}(h:dJ n H vs ts):dJ n H' vs ts:=h.aY fun a xs q=>e a _ q
theorem dJ.length {n:Nat}{H:Hp}:∀ {vs:Lo} {ts:List Tm},dJ n H vs ts->vs.length=ts.length
 | _,_,.nil=>rfl
 | _,_,.cons _ r=>by rw[Um,Um,dJ.length r]
theorem dJ.get {n:Nat}{H:Hp}:∀ {vs:Lo} {ts:List Tm} {i:Nat} {v:V},dJ n H vs ts->vs[i]? = some v->∃ t,ts[i]? = some t/\oG n H v t
 | _,_,_,_,.nil,h=>by simp at h
 | _,_,0,_,.cons h _,e=>by
  cases (show some _=some _ from e)
  exact⟨_,U,h⟩
 | _,_,i+1,_,.cons _ r,e=>by
  obtain⟨t,e1,e2⟩:=dJ.get (i:=i) r (by simpa using e)
  exact⟨t,by simpa using e1,e2⟩
theorem dJ.snoc {n:Nat}{H:Hp}:∀ {vs:Lo} {ts:List Tm} {v:V} {t:Tm},dJ n H vs ts->oG n H v t->dJ n H (vs++[v]) (ts++[t])
 | _,_,_,_,.nil,h=>.cons h .nil
 | _,_,_,_,.cons a r,h=>.cons a (dJ.snoc r h)
theorem nU:∀ {ts:List Tm} {i:Nat} {t:Tm},ts[i]? = some t->t.dep<=tdL ts
 | [],_,_,h=>by simp at h
 | d::r,0,_,h=>by
  cases (show some d=some _ from h)
  rw[tdL]
  exact Nat.le_max_left _ _
 | d::r,i+1,_,h=>by
  rw[tdL]
  exact Vd (nU (i:=i) (ts:=r) (by simpa using h)) (Nat.le_max_right _ _)
theorem Al {m:Nat}{t:Tm}(h:t.dep<=m):∀ {ts:List Tm},tdL ts<=m->tdL (ts++[t])<=m
 | [],_=>by simp only[ZC,tdL];lia
 | d::r,h2=>by
  rw[tdL] at h2
  rw[abQ,tdL]
  have:=Al (m:=m) h (ts:=r) (by lia)
  lia
theorem Tm.ye:∀ t:Tm,1<=t.dep
 | .free | .never | .gives .. | .sum .. | .crowd ..=>Ua 1
 | .all ts=>by rw[Tm.dep];lia
 | .any ts=>by rw[Tm.dep];lia
theorem xK:∀ {g:IN} {ts:List Tm} {i:Nat} {t:Tm},ts[i]? = some t->rC g (ts.take (i+1))=(rC g (ts.take i) && hF g t)
 | _,[],_,_,h=>by simp at h
 | g,d::r,0,t,h=>by
  cases (show some d=some _ from h)
  rw[WQ,rC,Vs,Vs,rC,Bool.and_true,Bool.true_and]
 | g,d::r,i+1,t,h=>by
  rw[WQ,rC,xK (i:=i) (ts:=r) (by simpa using h),WQ,rC,Bool.and_assoc]
theorem wJ:∀ {g:IN} {ts:List Tm} {i:Nat} {t:Tm},ts[i]? = some t->rB g (ts.take (i+1))=(rB g (ts.take i) || hF g t)
 | _,[],_,_,h=>by simp at h
 | g,d::r,0,t,h=>by
  cases (show some d=some _ from h)
  rw[WQ,rB,Vs,Vs,rB,Bool.or_false,aa7]
 | g,d::r,i+1,t,h=>by
  rw[WQ,rB,wJ (i:=i) (ts:=r) (by simpa using h),WQ,rB,Bool.or_assoc]
theorem rT:∀ {g:IN} {ts:List Tm} {i:Nat} {t:Tm},ts[i]? = some t->hF g t=false->rC g ts=false
 | _,[],_,_,h,_=>by simp at h
 | g,d::r,0,t,h,e=>by
  cases (show some d=some _ from h)
  rw[rC,e,Bool.false_and]
 | g,d::r,i+1,t,h,e=>by rw[rC,rT (i:=i) (ts:=r) (by simpa using h) e,Bool.and_false]
theorem wk:∀ {g:IN} {ts:List Tm} {i:Nat} {t:Tm},ts[i]? = some t->hF g t=true->rB g ts=true
 | _,[],_,_,h,_=>by simp at h
 | g,d::r,0,t,h,e=>by
  cases (show some d=some _ from h)
  rw[rB,e,Bool.true_or]
 | g,d::r,i+1,t,h,e=>by rw[rB,wk (i:=i) (ts:=r) (by simpa using h) e,Bool.or_true]
def LeG (g g':IN):Prop:=∀ i,g.getD i 0<=g'.getD i 0
theorem rZ (f f':Nat->Int)(h:∀ i,f i<=f' i):∀ c:IP,(c.map f).sum<=(c.map f').sum
 | []=>Vj _
 | i::c=>by
  have:=rZ f f' h c
  have:=h i
  simp only[U6,Yk]
  lia
theorem filter_le (f f':Nat->Bool)(h:∀ i,f i=true->f' i=true):∀ c:IP,(c.filter f).length<=(c.filter f').length
 | []=>Ua _
 | i::c=>by
  have ih:=filter_le f f' h c
  rw[W0,W0]
  by_cases e:f i=true
  ·rw[iPo e,iPo (h i e),Um,Um]
   lia
  ·rw[iNe e]
   split
   ·rw[Um]
    lia
   ·exact ih
mutual
theorem zJ {g g':IN}(l:LeG g g'):∀ t:Tm,hF g t=true->hF g' t=true
 | .free,_=>by rw[hF]
 | .never,h=>by rw[hF] at h;cases h
 | .gives i k,h=>by
  rw[hF] at h ⊢
  have:=of_decide_eq_true h
  have:=l i
  exact dcT (by lia)
 | .sum c k,h=>by
  rw[hF] at h ⊢
  have:=of_decide_eq_true h
  have:=rZ _ _ l c
  exact dcT (by lia)
 | .crowd c k m,h=>by
  rw[hF] at h ⊢
  have:=of_decide_eq_true h
  have:=filter_le (fun i=>decide (k<=g.getD i 0)) (fun i=>decide (k<=g'.getD i 0)) (fun i e=>dcT (ZR (of_decide_eq_true e) (l i))) c
  exact dcT (by lia)
 | .all ts,h=>by
  rw[hF] at h ⊢
  exact xx l ts h
 | .any ts,h=>by
  rw[hF] at h ⊢
  exact wD l ts h
theorem xx {g g':IN}(l:LeG g g'):∀ ts:List Tm,rC g ts=true->rC g' ts=true
 | [],_=>by rw[rC]
 | t::r,h=>by
  rw[rC,Wc] at h
  rw[rC,zJ l t h.1,xx l r h.2]
  rfl
theorem wD {g g':IN}(l:LeG g g'):∀ ts:List Tm,rB g ts=true->rB g' ts=true
 | [],h=>by rw[rB] at h;cases h
 | t::r,h=>by
  rw[rB,ab9] at h
  rw[rB]
  rcases h with h | h
  ·rw[zJ l t h,Bool.true_or]
  ·rw[wD l r h,Bool.or_true]
end
theorem gk {c A B:Prop}[Decidable c](hc:¬ c)(h:B):if decide c=true then A else B:=by
 rw[dcF hc]
 exact fC h
theorem DN {c A B:Prop}[Decidable c](hc:c)(h:A):if decide c=true then A else B:=by
 rw[dcT hc]
 exact gF h
theorem QJ {a b:VM}(h:a≠b):¬ V.str a=V.str b:=fun z=>h (by cases z;rfl)
theorem fQ {a b:VM}(h:a≠b:=by decide):¬ V.str a=V.str b:=QJ h
theorem atD {g:IN}{i:Nat}(h:i < g.length):atI (g.map V.int) (i:Int)=some (.int (g.getD i 0)):=by
 rw[jJ h,TQ,TJ h]
 rfl
abbrev nC:Stmt:=top 3
abbrev lG:Stmt:=top 4
abbrev zu:Stmt:=top 5
theorem pO:aK ["parts","giving","part"] ZB (aD nC):=gC
theorem oH:aK ["parts","giving","part"] ZB (aD lG):=gC
theorem Bj:aK ["term","giving","kind"] ZE (aD zu):=gC
inductive eQ (K:UT)(d:Nat)(vs:Lo)(H:Hp)(Q:VK)(e3:XK):Prop where
 | mk (v:V) (g:Addr) (n:Nat) (t:Tm) (ns:IN) (_:vs=[v,.ref g]) (_:oG n H v t) (_:t.dep<=d) (_:SqT K H g (ns.map V.int)) (_:n<=ns.length) (_:∀ H',aG H H'->Q (.bl (hF ns t)) H')
inductive Ls (K:UT)(d:Nat)(vs:Lo)(H:Hp)(Q:VK)(e3:XK):Prop where
 | mk (b g:Addr) (n:Nat) (us:Lo) (ts:List Tm) (ns:IN) (_:vs=[.ref b,.ref g]) (_:H b=some (.tup us)) (_:dJ n H us ts) (_:tdL ts<=d) (_:SqT K H g (ns.map V.int)) (_:n<=ns.length) (_:∀ H',aG H H'->Q (.bl (rC ns ts)) H')
inductive K8 (K:UT)(d:Nat)(vs:Lo)(H:Hp)(Q:VK)(e3:XK):Prop where
 | mk (b g:Addr) (n:Nat) (us:Lo) (ts:List Tm) (ns:IN) (_:vs=[.ref b,.ref g]) (_:H b=some (.tup us)) (_:dJ n H us ts) (_:tdL ts<=d) (_:SqT K H g (ns.map V.int)) (_:n<=ns.length) (_:∀ H',aG H H'->Q (.bl (rB ns ts)) H')
theorem Dd:dF P w K mg base CX0 0 f fd ZE (eQ K 0):=by
 have no:∀ vs H Q E,¬ eQ K 0 vs H Q E:=fun vs H Q E h=>by
  obtain⟨v,g,n,t,ns,_,_,h1,_⟩:=h
  have:=t.ye
  lia
 exact⟨fun vs H Q E h=>absurd h (no vs H Q E),fun A outer s H args us vs Q E _ _ _ _ h=>absurd h (no vs H Q E)⟩
theorem jm {d k:Nat} (F:Fun K "all_hold" "all_hold" nC f fd) (B:Bt mg)
  (UZ:Df P w K mg base "holds" k ZE (eQ K d)):dF P w K mg base CX0 (k+1) f fd ZB (Ls K d):=by
 refine okA F pO fun H Q E hr h=>?_
 obtain⟨b,g,n,us,ts,ns,rfl,hb,rp,hd,hg,hn,q⟩:=h
 refine⟨_,(aq (cW U3 U (fX (pv 0)) (pgN 2 pO.nd) (aO (ifR (rY (iQ (aP UZ hr (v2 2 1)))) mF)))
 (sR mF)),?_⟩
 have el:=rp.length
 refine⟨_,U,b,U,⟨_,sqT hb⟩,qQ (K:=K) (a:=b) (xs:=us) (fun i σ H2=>(∃ u,σ=[oR b,oR g,u])/\aG H H2/\rC ns (ts.take i)=true) ⟨⟨_,U⟩,aG.refl H,by rw[Vs,rC]⟩ (fun i σ H2 _ h=>fL h.2.1 (sqT hb)) ?_ ?_⟩
 ·rintro i x σ H2 hx ⟨⟨u,rfl⟩,sm,ab⟩
  obtain⟨t,ht,rt⟩:=rp.get hx
  refine⟨_,U,_,U,x,g,n,t,ns,U,rt.mono sm,Vd (nU ht) hd,fL sm hg,hn,fun H3 s3=>⟨_,U,?_⟩⟩
  cases e:hF ns t with
  | false =>
   have q':=q H3 (sm.trans s3)
   rw[rT ht e] at q'
   exact gF q'
  | true=>exact fC ⟨⟨_,U⟩,sm.trans s3,by rw[xK ht,ab,e];rfl⟩
 ·rintro σ H2 ⟨⟨u,rfl⟩,sm,ab⟩
  have q':=q H2 sm
  rw[el,Ul] at ab
  rw[ab] at q'
  exact q'
theorem gK {d k:Nat} (F:Fun K "any_holds" "any_holds" lG f fd) (B:Bt mg)
  (UZ:Df P w K mg base "holds" k ZE (eQ K d)):dF P w K mg base CX0 (k+1) f fd ZB (K8 K d):=by
 refine okA F oH fun H Q E hr h=>?_
 obtain⟨b,g,n,us,ts,ns,rfl,hb,rp,hd,hg,hn,q⟩:=h
 refine⟨_,(aq (cW U3 U (fX (pv 0)) (pgN 2 oH.nd) (aO (ifR (iQ (aP UZ hr (v2 2 1))) mF)))
 (sR mF)),?_⟩
 have el:=rp.length
 refine⟨_,U,b,U,⟨_,sqT hb⟩,qQ (K:=K) (a:=b) (xs:=us) (fun i σ H2=>(∃ u,σ=[oR b,oR g,u])/\aG H H2/\rB ns (ts.take i)=false) ⟨⟨_,U⟩,aG.refl H,by rw[Vs,rB]⟩ (fun i σ H2 _ h=>fL h.2.1 (sqT hb)) ?_ ?_⟩
 ·rintro i x σ H2 hx ⟨⟨u,rfl⟩,sm,ab⟩
  obtain⟨t,ht,rt⟩:=rp.get hx
  refine⟨_,U,_,U,x,g,n,t,ns,U,rt.mono sm,Vd (nU ht) hd,fL sm hg,hn,fun H3 s3=>⟨_,U,?_⟩⟩
  cases e:hF ns t with
  | true =>
   have q':=q H3 (sm.trans s3)
   rw[wk ht e] at q'
   exact gF q'
  | false=>exact fC ⟨⟨_,U⟩,sm.trans s3,by rw[wJ ht,ab,e];rfl⟩
 ·rintro σ H2 ⟨⟨u,rfl⟩,sm,ab⟩
  have q':=q H2 sm
  rw[el,Ul] at ab
  rw[ab] at q'
  exact q'
theorem pA {d k:Nat} (F:Fun K "holds" "holds" zu f fd) (B:Bt mg)
  (UP:Df P w K mg base "all_hold" k ZB (Ls K d)) (UR:Df P w K mg base "any_holds" k ZB (K8 K d)):dF P w K mg base CX0 (k+1) f fd ZE (eQ K (d+1)):=by
 refine okA F Bj fun H Q E hr h=>?_
 obtain⟨v,g,n,t,ns,rfl,rt,hd,hg,hn,q⟩:=h
 refine⟨_,(aq (sT 2 Bj.nd (pxT K (pv 0) aj))
 (aq (ifR (aU dg (pv 2) bK) (dX vy (pxT K (pv 1) (pxT K (pv 0) aj)) (pxT K (pv 0) aj)))
 (aq (ifR (aU dg (pv 2) bK) (dX vy (aL (r:=JQ K) (qy U) U B.sum_ Ge (a1 (bh (L:=["one"]) (F:=["giving"]) (cap:=[1]) U (aV U U (by kernel_rfl)) (fX (pxT K (pv 0) aj)) (fun _ _ _ _ _=>(pgC 0)) (fun _ _ _ _ _=>bu) (fun _ _ _ _ _=>(pxT K (pv 1) (pv 0)))))) (pxT K (pv 0) aj)))
 (aq (ifR (aU dg (pv 2) bK) (dX vy (pln K B.len_ (bh (L:=["one"]) (F:=["giving","term"]) (cap:=[1,0]) U (aV U U (by kernel_rfl)) (fX (pxT K (pv 0) aj)) (fun _ _ _ _ _=>(pgC 0)) (fun _ _ _ _ _=>(qM (aU vy (pxT K (pv 1) (pv 0)) (pxT K (pv 2) aj)))) (fun _ _ _ _ _=>(pv 0)))) (pxT K (pv 0) aj)))
 (aq (ifR (aU dg (pv 2) bK) (aP UP hr (au (pxT K (pv 0) aj) (v1 1))))
 (aq (ifR (aU dg (pv 2) bK) (aP UR hr (au (pxT K (pv 0) aj) (v1 1))))
 (sR (dX dg (pv 2) bK)))))))),?_⟩
 cases rt with
 | @free a ha =>
  refine⟨_,U,a,_,_,_,U,U,sqT ha,gt0,_,U,U,_,U,gk fQ ⟨_,U,U,_,U,gk fQ ⟨_,U,U,_,U,gk fQ ⟨_,U,U,_,U,gk fQ ⟨_,U,U,_,U,gk fQ ⟨_,U,U,?_⟩⟩⟩⟩⟩⟩
  have q':=q H (aG.refl H)
  rw[hF] at q'
  rw[dcT U]
  exact q'
 | @never a ha =>
  refine⟨_,U,a,_,_,_,U,U,sqT ha,gt0,_,U,U,_,U,gk fQ ⟨_,U,U,_,U,gk fQ ⟨_,U,U,_,U,gk fQ ⟨_,U,U,_,U,gk fQ ⟨_,U,U,_,U,gk fQ ⟨_,U,U,?_⟩⟩⟩⟩⟩⟩
  have q':=q H (aG.refl H)
  rw[hF] at q'
  rw[dcF fQ]
  exact q'
 | @gives a i k ha hi _ _ =>
  refine⟨_,U,a,_,_,_,U,U,sqT ha,gt0,_,U,U,_,U,DN U ⟨_,U,_,U,a,_,_,_,U,U,sqT ha,gt1,g,_,_,_,U,U,hg,atD (by lia),_,U,a,_,_,_,U,U,sqT ha,gt2,_,_,U,U,?_⟩⟩
  have q':=q H (aG.refl H)
  rw[hF] at q'
  exact q'
 | @sum a b c k ha hb hc _ hl _ _ _ =>
  refine⟨_,U,a,_,_,_,U,U,sqT ha,gt0,_,U,U,_,U,gk fQ ⟨_,U,U,_,U,DN U ?_⟩⟩
  refine⟨_,U,a,_,_,_,U,U,sqT ha,gt1,b,U,⟨_,sqT hb⟩,fun D hD=>dW (K:=K) (a:=b) (xs:=c.map vN) (fun i zs σ' H2=>(∃ u,σ'=[u,oR g])/\zs=((c.take i).map fun i=>ns.getD i 0).map V.int/\aG H H2/\H2 D=some (.lst zs))
   ⟨⟨_,U⟩,U,aA hD _,aa⟩ (fun i zs σ' H2 _ h=>⟨fL h.2.2.1 (sqT hb),h.2.2.2⟩) ?_ ?_⟩
  ·rintro j zs x σ' H2 hx ⟨⟨u,rfl⟩,e1,sm,hDl⟩
   obtain⟨i,hi,rfl⟩:=pM hx
   have hin:i < n:=hc i (Ud hi)
   refine gT ?_
   refine⟨_,U,_,U,g,_,_,_,U,U,fL sm hg,atD (by lia),hDl,?_,⟨_,U⟩,?_,aF sm hD _,aa⟩
   ·rw[e1,Tw,Tw,Uj]
    exact aB (by lia)
   ·rw[e1,Ux,hi,T9,T9]
    rfl
  ·rintro zs σ' H2 ⟨⟨u,rfl⟩,e1,sm,hDl⟩
   rw[Tw,Ul] at e1
   refine⟨D,_,U,sqL (by rw[hDl,e1]),_,U,a,_,_,_,U,U,sqT (sm _ _ ha),gt2,_,_,U,U,?_⟩
   have q':=q H2 sm
   rw[hF] at q'
   exact q'
 | @crowd a b c k m ha hb hc _ hl _ _ _ _ _ =>
  refine⟨_,U,a,_,_,_,U,U,sqT ha,gt0,_,U,U,_,U,gk fQ ⟨_,U,U,_,U,gk fQ ⟨_,U,U,_,U,DN U ?_⟩⟩⟩
  refine⟨_,U,a,_,_,_,U,U,sqT ha,gt1,b,U,⟨_,sqT hb⟩,fun D hD=>dW (K:=K) (a:=b) (xs:=c.map vN) (fun i zs σ' H2=>(∃ u,σ'=[u,oR g,oR a])/\zs=((c.take i).filter fun i=>decide (k<=ns.getD i 0)).map vN/\aG H H2/\H2 D=some (.lst zs))
   ⟨⟨_,U⟩,U,aA hD _,aa⟩ (fun i zs σ' H2 _ h=>⟨fL h.2.2.1 (sqT hb),h.2.2.2⟩) ?_ ?_⟩
  ·rintro j zs x σ' H2 hx ⟨⟨u,rfl⟩,e1,sm,hDl⟩
   obtain⟨i,hi,rfl⟩:=pM hx
   have hin:i < n:=hc i (Ud hi)
   have et:c.take (j+1)=c.take j++[i]:=by rw[Ux,hi];rfl
   refine⟨_,U,_,U,g,_,_,_,U,U,fL sm hg,atD (by lia),_,U,a,_,_,_,U,U,sqT (sm _ _ ha),gt2,_,_,U,U,_,U,?_⟩
   refine DK (fun cc=>?_) (fun cc=>?_)
   ·refine⟨_,U,hDl,?_,⟨_,U⟩,?_,aF sm hD _,aa⟩
    ·rw[e1,Tw]
     have:=Wn (fun i=>decide (k<=ns.getD i 0)) (c.take j)
     rw[Uj] at this
     exact aB (by lia)
    ·rw[e1,et,Yd,T9,W0,iPo cc]
     rfl
   ·refine⟨⟨_,U⟩,?_,sm,hDl⟩
    rw[e1,et,Yd,W0,iNe cc]
    simp
  ·rintro zs σ' H2 ⟨⟨u,rfl⟩,e1,sm,hDl⟩
   rw[Tw,Ul] at e1
   refine⟨D,_,U,.inl (sqL (by rw[hDl,e1])),_,U,a,_,_,_,U,U,sqT (sm _ _ ha),cV (k:=3) U,_,_,U,U,?_⟩
   have q':=q H2 sm
   rw[hF] at q'
   rw[Tw]
   exact q'
 | @all a b us ts ha hb _ _ rl =>
  refine⟨_,U,a,_,_,_,U,U,sqT ha,gt0,_,U,U,_,U,gk fQ ⟨_,U,U,_,U,gk fQ ⟨_,U,U,_,U,gk fQ ⟨_,U,U,_,U,DN U ⟨_,U,a,_,_,_,U,U,sqT ha,gt1,_,U,b,g,n,us,ts,ns,U,hb,rl,?_,hg,hn,fun H' s'=>?_⟩⟩⟩⟩⟩
  ·rw[Tm.dep] at hd
   lia
  ·have q':=q H' s'
   rw[hF] at q'
   exact q'
 | @any a b us ts ha hb _ _ rl =>
  refine⟨_,U,a,_,_,_,U,U,sqT ha,gt0,_,U,U,_,U,gk fQ ⟨_,U,U,_,U,gk fQ ⟨_,U,U,_,U,gk fQ ⟨_,U,U,_,U,gk fQ ⟨_,U,U,_,U,DN U ⟨_,U,a,_,_,_,U,U,sqT ha,gt1,_,U,b,g,n,us,ts,ns,U,hb,rl,?_,hg,hn,fun H' s'=>?_⟩⟩⟩⟩⟩⟩
  ·rw[Tm.dep] at hd
   lia
  ·have q':=q H' s'
   rw[hF] at q'
   exact q'
theorem lO {t u:TS}{D:Ends}{σ:St}{H:Hp}(P:St->Hp->Prop)(h2:∀ σ H,P σ H->u D σ H)(h1:∀ N:St->Hp->Prop,(∀ σ H,P σ H->N σ H)->t { D with nx:=N } σ H):G6 t u D σ H:=h1 (u D) h2
theorem uq {A B:TT}{t u:TS}{D:Ends}{σ:St}{H:Hp}(b1 b2:Bool)(R:Hp->Prop)(hA:∀ Q:Bool->Hp->Prop,(∀ H1,R H1->Q b1 H1)->A σ H Q)(hB:∀ H1,R H1->∀ Q:Bool->Hp->Prop,Q b2 H1->B σ H1 Q)
  (ht:∀ H1,R H1->b1=true->b2=true->t D σ H1) (hu:∀ H1,R H1->(b1=true->b2=false)->u D σ H1):FT (RV A B) t u D σ H:=by
 refine hA _ fun H1 r1=>?_
 show if b1=true then B σ H1 (fun b H2=>if b=true then t D σ H2 else u D σ H2) else (if false=true then t D σ H1 else u D σ H1)
 cases b1 with
 | false=>exact fC (fC (hu H1 r1 fun z=>by cases z))
 | true =>
  refine gF (hB H1 r1 _ ?_)
  cases b2 with
  | false=>exact fC (hu H1 r1 fun _=>U)
  | true=>exact gF (ht H1 r1 U U)
theorem gN {i:Nat}{x:V}{σ:St}{H:Hp}{P:St->Hp->Prop}(h:P (σ.set i (some x)) H):vg i x σ H P:=h
abbrev nu:Stmt:=top 33
theorem fZ:aK ["_law_cell_here","_law_n","_law_deep","_law_most","_law_drawn","_law_parts","_law_crowd_here"] XI (aD nu):=gC
inductive sW (d:Nat)(vs:Lo)(H:Hp)(Q:VK)(e3:XK):Prop where
 | mk (c:Int) (n:Nat) (deep most:Int) (_:vs=[.int c,.int (n:Int),.int deep,.int most]) (_:1<=n) (_:n<=12) (_:1<=deep) (_:deep<=(d:Int)) (_:1<=most) (_:most<=9) (_:∀ (v:V) (t:Tm) (H':Hp),aG H H'->oG n H' v t->(t.dep:Int)<=deep->Q v H')
theorem term_none:dF P w K mg base CX0 1 f fd XI (sW 0):=by
 have no:∀ vs H Q E,¬ sW 0 vs H Q E:=fun vs H Q E h=>by
  obtain⟨c,n,deep,most,_,_,_,h1,h2,_⟩:=h
  lia
 exact⟨fun vs H Q E h=>absurd h (no vs H Q E),fun A outer s H args us vs Q E _ _ _ _ h=>absurd h (no vs H Q E)⟩
theorem lU {d:Nat} (F:Fun K "_law_term" "_law_term" nu f fd) (B:Bt mg)
  (VT:Df P w K mg base "_law_draws" 1 Ya (jk K)) (WO:Df P w K mg base "_law_under" 1 YI tU) (VQ:Df P w K mg base "_law_crowd" 1 YV yc)
  (WJ:Df P w K mg base "_law_term" (d+1) XI (sW d)):dF P w K mg base CX0 (d+2) f fd XI (sW (d+1)):=by
 refine okA F fZ fun H Q E hr h=>?_
 obtain⟨c,n,deep,most,rfl,n1,n12,de1,ded,m1,m9,q⟩:=h
 refine⟨_,(aq (sT 4 fZ.nd (aP VT hr (au (pv 0) (a1 (aX (au aj (au aj (au aj (au aj (a1 aj))))))))))
 (aq (iz (PW.pt (wu (aU Cv (pxL K (pv 4) aj) aj) (pJ (aU tZ (pv 2) aj)))) (aq (uI (L:=ZT) (F:=["_law_n","_law_most","_law_cell_here","_law_deep"]) (cap:=[1,3,0,2]) (j:=5) fZ.nd U (Zz U) U (aV U U (by kernel_rfl)) (bM U B.range_ (a1 (aH bF aj (aH cI (pxL K (pv 4) aj) aj)))) (fun _ _ _ _ _=>(pgC 0)) (fun _ _ _ _ _=>bu) (fun _ _ _ _ _=>(aP WJ hr (au (aP WO hr (v2 3 0)) (au (pv 1) (au (aH oV (pv 4) aj) (v1 2)))))))
 (sR (bD (au (pxL K (aX (au bK (a1 bK))) (pxL K (pv 4) aj)) (a1 (bG (r:=fH K) bw U B.tuple_ bW (v1 5))))))) cQ)
 (aq (sT 6 fZ.nd (aP VQ hr (au (pxL K (pv 4) aj) (v1 1))))
 (aq (iz (aU (r:=vD K) (kW hr.gU) (pv 6) (bD cY)) (aO (sT 6 fZ.nd (bD (a1 (aH cI (pxL K (pv 4) aj) (pv 1)))))) cQ)
 (aq (ifR (PW.pt (wu (nQ (r:=rIn K false) iJ (pxL K (pv 4) aj) (bD (au aj (a1 aj))) U) (pJ (aU tZ (pln K B.len_ (pv 6)) aj)))) (bD (au bK (au (pv 6) (a1 (aH bF aj (aH cI (aH bF (aH gY aj (pxL K (pv 4) aj)) (pxL K (pv 4) aj)) (aL (pU U) U B.min_ GD (au aj (a1 (aH gY (pv 3) (pln K B.len_ (pv 6)))))))))))))
 (aq (ifR (aU dg (pxL K (pv 4) aj) aj) (bD (au bK (au (pv 6) (au (aH bF aj (aH cI (pxL K (pv 4) aj) (pv 3))) (a1 (aH bF aj (aH cI (pxL K (pv 4) aj) (pln K B.len_ (pv 6))))))))))
 (aq (ifR (aU dg (pxL K (pv 4) aj) aj) (bD (a1 (pxL K (aX (au bK (au bK (a1 bK)))) (aH cI (pxL K (pv 4) aj) aj)))))
 (sR (bD (au bK (au (aH cI (pxL K (pv 4) aj) (pv 1)) (a1 (aH bF aj (aH cI (pxL K (pv 4) aj) (pv 3))))))))))))))),?_⟩
 refine⟨_,U,smN 5,fun p1 h1=>?_⟩
 generalize eH1:upd H p1 _=H1
 obtain⟨g1,e1⟩:=aC eH1 h1
 refine⟨c,p1,[9,12,9,4096,12],U,sqL e1,by decide,by decide,fun p2 h2=>?_⟩
 generalize eH2:upd H1 p2 _=H2
 obtain⟨g2,e2⟩:=aC eH2 h2
 have hps:∀ q∈([9,12,9,4096,12]:IN),0 < q:=by decide
 obtain⟨d0,k0,b0⟩:=bA (c:=jq c) (i:=0) hps U
 obtain⟨d1,k1,b1⟩:=bA (c:=jq c) (i:=1) hps U
 obtain⟨d2,k2,b2⟩:=bA (c:=jq c) (i:=2) hps U
 obtain⟨d3,k3,b3⟩:=bA (c:=jq c) (i:=3) hps U
 obtain⟨d4,k4,b4⟩:=bA (c:=jq c) (i:=4) hps U
 have a0:=cV (fG k0)
 have a1:=cV (fG k1)
 have a2:=cV (fG k2)
 have a3:=cV (fG k3)
 have a4:=cV (fG k4)
 change _=some (HO.lst ((vB (jq c) [9,12,9,4096,12]).map V.int)) at e2
 generalize vB (jq c) [9,12,9,4096,12]=ds at *
 have gH:aG H H2:=g1.trans g2
 refine gN ?_
 dsimp only
 show G6 (FT _ _ _) _ _ _ _
 refine lO (fun σ H3=>σ=[oI c,some (.int (n:Int)),oI deep,oI most,oR p2,none,none]/\H2=H3) ?rest (fun _ R=>?_)
 case rest =>
  rintro σ H3 ⟨rfl,rfl⟩
  refine⟨_,U,p2,_,_,_,U,U,sqL e2,a3,_,U,d3,n,U,by lia,fun cs r3 H3 hc hp hl s3 f3 e3=>?_⟩
  refine gN ?_
  dsimp only
  show G6 (FT _ _ _) _ _ _ _
  refine lO (fun σ H5=>∃ (rc:Addr) (cs:IP),σ=[oI c,some (.int (n:Int)),oI deep,oI most,oR p2,none,oR rc]/\aG H2 H5/\H5 rc=some (.tup (cs.map vN))/\(∀ i∈cs,i < n)/\cs.Pairwise (· < ·)/\cs.length<=n/\1<=cs.length) ?rest2 (fun _ R=>?_)
  case rest2 =>
   rintro σ H5 ⟨rc,cs,rfl,s5,e5,hc,hp,hl,h1l⟩
   have e2':=s5 _ _ e2
   have lenr:((cs.map vN).length:Int)=(cs.length:Int):=by rw[Tw]
   show G6 (FT _ _ _) _ _ _ _
   refine lO (fun σ H6=>σ=[oI c,some (.int (n:Int)),oI deep,oI most,oR p2,none,oR rc]/\aG H5 H6) ?rest3 (fun _ R=>?_)
   case rest3 =>
    rintro σ H6 ⟨rfl,s6⟩
    have e2':=s6 _ _ e2'
    have e5:=s6 _ _ e5
    have s56:aG H H6:=gH.trans (s5.trans s6)
    refine⟨_,U,p2,_,_,_,U,U,sqL e2',a0,U,_,U,?_⟩
    refine DK (fun _=>?_) (fun _=>?_)
    ·refine⟨_,U,_,U,p2,_,_,_,U,U,sqL e2',a2,_,U,_,_,U,U,(by show (0:Int) < most;lia),_,_,U,U,_,U,p2,_,_,_,U,U,sqL e2',a4,_,U,rc,_,U,.inr (sqT e5),_,_,U,U,?_,_,_,U,U,smN 4,fun p7 h7=>?_⟩
     ·rw[lenr]
      lia
     ·have u1:0<=d2 % most:=Vp _ (by lia)
      have u2:d2 % most < most:=U7 _ (by lia)
      have u3:0<=d4 % ((cs.map vN).length:Int):=Vp _ (by rw[lenr];lia)
      have u4:d4 % ((cs.map vN).length:Int) < (cs.length:Int):=by
       have:=U7 d4 (b:=((cs.map vN).length:Int)) (by rw[lenr];lia)
       rw[lenr] at this ⊢
       exact this
      refine q (.ref p7) (.crowd cs (1+d2 % most) (1+d4 % ((cs.map vN).length:Int))) _ (s56.trans (aA h7 _)) (.crowd aa (aA h7 _ _ _ e5) hc hp (by lia) h1l (by lia) (by lia) (by lia) (by lia)) ?_
      exact de1
    ·refine⟨_,U,p2,_,_,_,U,U,sqL e2',a0,U,_,U,?_⟩
     refine DK (fun _=>?_) (fun _=>?_)
     ·refine⟨smN 3,fun p7 h7=>?_⟩
      generalize eH7:upd H6 p7 _=H7
      obtain⟨g7,e7⟩:=aC eH7 h7
      have u1:0<=d1 % 3:=Vp _ (by lia)
      have u2:d1 % 3 < 3:=U7 _ (by lia)
      have fin:∀ p8 (x:VM),H7 p8=none->(x = "free"∨x = "never")->Q (.ref p8) (upd H7 p8 (.tup [.str x])):=fun p8 x h8 hx=>by
       rcases hx with rfl | rfl
       ·refine q (.ref p8) .free _ (s56.trans (g7.trans (aA h8 _))) (.free aa) ?_
        exact de1
       ·refine q (.ref p8) .never _ (s56.trans (g7.trans (aA h8 _))) (.never aa) ?_
        exact de1
      refine⟨_,U,p2,_,_,_,U,U,sqL (g7 _ _ e2'),a1,_,_,U,U,(by show (0:Int) < 3;decide),?_⟩
      rcases (show d1 % 3=0∨d1 % 3=1∨d1 % 3=2 by lia) with z | z | z
      ·exact⟨p7,_,_,_,U,U,sqL e7,by rw[z];rfl,smN 1,fun p8 h8=>fin p8 _ h8 (.inl U)⟩
      ·exact⟨p7,_,_,_,U,U,sqL e7,by rw[z];rfl,smN 1,fun p8 h8=>fin p8 _ h8 (.inl U)⟩
      ·exact⟨p7,_,_,_,U,U,sqL e7,by rw[z];rfl,smN 1,fun p8 h8=>fin p8 _ h8 (.inr U)⟩
     ·have u1:0<=d1 % (n:Int):=Vp _ (by lia)
      have u2:d1 % (n:Int) < (n:Int):=U7 _ (by lia)
      have u3:0<=d2 % most:=Vp _ (by lia)
      have u4:d2 % most < most:=U7 _ (by lia)
      refine⟨_,U,p2,_,_,_,U,U,sqL e2',a1,_,U,_,_,U,U,(by show (0:Int) < (n:Int);lia),_,U,p2,_,_,_,U,U,sqL e2',a2,_,U,_,_,U,U,(by show (0:Int) < most;lia),_,_,U,U,smN 3,fun p7 h7=>?_⟩
      obtain⟨i,hi⟩:=Y6 u1
      rw[hi] at u2
      refine q (.ref p7) (.gives i (1+d2 % most)) _ (s56.trans (aA h7 _)) (.gives (aa.trans (by show some (HO.tup [V.str "gives",V.int (d1 % (n:Int)),V.int (1+d2 % most)])=some (HO.tup [V.str "gives",V.int (i:Int),V.int (1+d2 % most)]);rw[hi])) (by lia) (by lia) (by lia)) ?_
      exact de1
   ·refine uq (inV (.int d0) [.int 3,.int 4]) (decide (1 < (cs.length:Int))) (fun H6=>aG H5 H6) (fun Q' hQ=>?_) (fun H6 s6 Q' hQ=>?_) (fun H6 s6 _ hl2=>?_) (fun H6 s6 _=>R _ _ ⟨U,s6⟩)
    ·refine⟨_,U,p2,_,_,_,U,U,sqL e2',a0,smN 2,fun p6 h6=>⟨p6,_,U,.inr (sqT aa),U,U,_,U,hQ _ (aA h6 _)⟩⟩
    ·refine⟨_,U,rc,_,U,.inr (sqT (s6 _ _ e5)),_,_,U,U,_,U,?_⟩
     rw[lenr]
     exact hQ
    ·have e2':=s6 _ _ e2'
     have e5:=s6 _ _ e5
     have s56:aG H H6:=gH.trans (s5.trans s6)
     have hl3:(1:Int) < (cs.length:Int):=of_decide_eq_true hl2
     refine⟨_,U,_,U,p2,_,_,_,U,U,sqL e2',a1,_,_,U,U,.inl ⟨by decide,by decide⟩,_,U,p2,_,_,_,U,U,sqL e2',a2,_,_,U,U,_,U,_,U,rc,_,U,.inr (sqT e5),_,_,U,U,.inl ⟨by lia,by lia⟩,_,_,U,?_⟩
     have pz:0 < most * ((cs.map vN).length:Int):=by
      rw[lenr]
      exact Int.mul_pos (by lia) (by lia)
     generalize hz:(if most * ((cs.map vN).length:Int) < 99 then most * ((cs.map vN).length:Int) else 99)=z
     have z1:0 < z:=by
      rw[← hz]
      split <;> lia
     have z2:z<=99:=by
      rw[← hz]
      split <;> lia
     have u3:0<=(9 * d1+d2) % z:=Vp _ (by lia)
     have u4:(9 * d1+d2) % z < z:=U7 _ z1
     refine⟨_,_,U,U,z1,_,_,U,U,smN 3,fun p7 h7=>?_⟩
     refine q (.ref p7) (.sum cs (1+(9 * d1+d2) % z)) _ (s56.trans (aA h7 _)) (.sum aa (aA h7 _ _ _ e5) hc hp (by lia) (by lia) (by lia) (by lia)) ?_
     exact de1
  ·refine⟨_,U,smN 0,fun p4 h4=>?_⟩
   have e3':SqT K H3 r3 ((cs.map fun i:Nat=>(i:Int)).map V.int):=by rw[← je];exact sqT e3
   have g4:aG H3 (upd H3 p4 (.tup [])):=aA h4 _
   refine⟨r3,p4,cs.map (fun i:Nat=>(i:Int)),[],U,U,fL g4 e3',sqT aa,_,U,?_⟩
   refine DK (fun ce=>?_) (fun ce=>?_)
   ·have u1:0<=d4 % (n:Int):=Vp _ (by lia)
    have u2:d4 % (n:Int) < (n:Int):=U7 _ (by lia)
    refine⟨_,U,p2,_,_,_,U,U,sqL (g4 _ _ (s3 _ _ e2)),a4,_,U,_,_,U,U,(by show (0:Int) < (n:Int);lia),smN 1,fun p5 h5=>?_⟩
    obtain⟨i,hi⟩:=Y6 u1
    rw[hi] at u2
    refine R _ _ ⟨p5,[i],U,s3.trans (g4.trans (aA h5 _)),aa.trans (by show some (HO.tup [V.int (d4 % (n:Int))])=some (HO.tup [V.int (i:Int)]);rw[hi]),?_,by simp,n1,Ua _⟩
    intro j hj
    rw[WY] at hj
    lia
   ·refine R _ _ ⟨r3,cs,U,s3.trans g4,g4 _ _ e3,hc,hp,hl,?_⟩
    cases cs with
    | nil=>exact absurd (dcT U) ce
    | cons x xs=>rw[Um];lia
 ·refine uq (decide (d0 < 2)) (decide (1 < deep)) (fun H3=>H2=H3) (fun Q' hQ=>?_) (fun H3 e Q' hQ=>?_) (fun H3 e c1 c2=>?_) (fun H3 e _=>R _ _ ⟨U,e⟩)
  ·exact⟨_,U,p2,_,_,_,U,U,sqL e2,a0,_,_,U,U,_,U,hQ _ U⟩
  ·exact⟨_,U,_,_,U,U,_,U,hQ⟩
  ·subst e
   have c1:d0 < 2:=of_decide_eq_true c1
   have c2:1 < deep:=of_decide_eq_true c2
   have u1:0<=d4 % 5:=Vp _ (by lia)
   have u2:d4 % 5 < 5:=U7 _ (by lia)
   refine⟨_,U,p2,_,_,_,U,U,sqL e2,a4,_,_,U,U,(by show (0:Int) < 5;decide),_,_,U,U,_,U,by lia,by lia,fun D hD=>dH (lo:=0) (n:=(2+d4 % 5).toNat)
    (fun i zs σ' H5=>(∃ u,σ'=[u,some (.int (n:Int)),oI most,oI c,oI deep])/\aG H2 H5/\H5 D=some (.lst zs)/\zs.length=i/\∃ ts,dJ n H5 zs ts/\(tdL ts:Int)<=deep - 1)
    ⟨⟨_,U⟩,aA hD _,aa,U,[],.nil,by rw[tdL];lia⟩ (fun i zs σ' H5 _ h=>h.2.2.1) ?_ ?_⟩
   ·rintro i zs σ' H5 hi ⟨⟨u,rfl⟩,s5,eD,lz,ts,rt,td⟩
    refine gT ?_
    refine⟨_,U,_,U,c,i,by rw[Wt];rfl,by lia,_,U,_,U,_,_,U,U,_,U,Mx c i,n,deep - 1,most,U,n1,n12,by lia,by lia,m1,m9,fun v t H6 s6 r6 d6=>?_⟩
    refine⟨s6 _ _ eD,?_,⟨_,U⟩,aF (s5.trans s6) hD _,aa,?_,ts++[t],?_,?_⟩
    ·exact aB (by lia)
    ·rw[Uh,lz]
     rfl
    ·have s7:=bO (zs':=zs++[v]) (s6 _ _ eD)
     exact ((rt.mono s6).aY s7).snoc (r6.aY s7)
    ·have:=Al (m:=(deep - 1).toNat) (t:=t) (by lia) (ts:=ts) (by lia)
     lia
   ·rintro zs σ' H5 ⟨⟨u,rfl⟩,s5,eD,lz,ts,rt,td⟩
    refine⟨smN 2,fun p6 h6=>?_⟩
    generalize eH6:upd H5 p6 _=H6
    obtain⟨g6,e6⟩:=aC eH6 h6
    refine⟨_,U,p2,_,_,_,U,U,sqL (g6 _ _ (s5 _ _ e2)),a0,?_⟩
    rcases (show d0=0∨d0=1 by lia) with z | z
    ·subst z
     refine⟨p6,_,_,_,U,U,sqL e6,U,_,U,D,_,U,.inl ⟨sqL (g6 _ _ eD),fun p7 h7=>?_⟩⟩
     generalize eH7:upd H6 p7 _=H7
     obtain⟨g7,e7⟩:=aC eH7 h7
     refine⟨smN 2,fun p8 h8=>?_⟩
     refine q (.ref p8) (.all ts) _ (gH.trans (s5.trans (g6.trans (g7.trans (aA h8 _))))) (.all aa (aA h8 _ _ _ e7) (by lia) (by lia) (rt.mono (g6.trans (g7.trans (aA h8 _))))) ?_
     rw[Tm.dep]
     lia
    ·subst z
     refine⟨p6,_,_,_,U,U,sqL e6,U,_,U,D,_,U,.inl ⟨sqL (g6 _ _ eD),fun p7 h7=>?_⟩⟩
     generalize eH7:upd H6 p7 _=H7
     obtain⟨g7,e7⟩:=aC eH7 h7
     refine⟨smN 2,fun p8 h8=>?_⟩
     refine q (.ref p8) (.any ts) _ (gH.trans (s5.trans (g6.trans (g7.trans (aA h8 _))))) (.any aa (aA h8 _ _ _ e7) (by lia) (by lia) (rt.mono (g6.trans (g7.trans (aA h8 _))))) ?_
     rw[Tm.dep]
     lia
abbrev lB:Stmt:=top 41
theorem vP:aK XY XY (aD lB):=gC
theorem Ei (g:IN):∀ ts:List Tm,(ts.map (hF g)).all (fun b=>b)=rC g ts
 | []=>by rw[rC];rfl
 | t::r=>by rw[rC,← Ei g r];rfl
theorem Eo (g:IN):∀ ts:List Tm,(ts.map (hF g)).any (fun b=>b)=rB g ts
 | []=>by rw[rB];rfl
 | t::r=>by rw[rB,← Eo g r];rfl
theorem BK (f:Nat->Bool):∀ c:IP,(c.map fun i=>if f i=true then (1:Int) else 0).sum=((c.filter f).length:Int)
 | []=>rfl
 | i::c=>by
  have ih:=BK f c
  rw[U6,Yk,ih,W0]
  split
  ·rw[Um]
   lia
  ·lia
theorem yp:dF P w K mg base CX0 0 f fd XY (eQ K 0):=by
 have no:∀ vs H Q E,¬ eQ K 0 vs H Q E:=fun vs H Q E h=>by
  obtain⟨v,g,n,t,ns,_,_,h1,_⟩:=h
  have:=t.ye
  lia
 exact⟨fun vs H Q E h=>absurd h (no vs H Q E),fun A outer s H args us vs Q E _ _ _ _ h=>absurd h (no vs H Q E)⟩
theorem gJ {d:Nat} (F:Fun K "_law_holds" "_law_holds" lB f fd) (B:Bt mg)
  (VW:Df P w K mg base "_law_holds" d XY (eQ K d)):dF P w K mg base CX0 (d+1) f fd XY (eQ K (d+1)):=by
 refine okA F vP fun H Q E hr h=>?_
 obtain⟨v,g,n,t,ns,rfl,rt,hd,hg,hn,q⟩:=h
 refine⟨_,(aq (ifR (aU dg (pxT K (pv 0) aj) bK) (dX vy (pxT K (pv 1) (pxT K (pv 0) aj)) (pxT K (pv 0) aj)))
 (aq (ifR (aU dg (pxT K (pv 0) aj) bK) (dX vy (aL (r:=JQ K) (qy U) U B.sum_ Ge (a1 (bh (L:=ZO) (F:=Zp) (cap:=[1]) U (aV U U (by kernel_rfl)) (fX (pxT K (pv 0) aj)) (fun _ _ _ _ _=>(pgC 0)) (fun _ _ _ _ _=>bu) (fun _ _ _ _ _=>(pxT K (pv 1) (pv 0)))))) (pxT K (pv 0) aj)))
 (aq (ifR (aU dg (pxT K (pv 0) aj) bK) (dX vy (aL (r:=JQ K) (qy U) U B.sum_ Ge (a1 (bh (L:=ZO) (F:=["_law_giving_here","_law_term_here"]) (cap:=[1,0]) U (aV U U (by kernel_rfl)) (fX (pxT K (pv 0) aj)) (fun _ _ _ _ _=>(pgC 0)) (fun _ _ _ _ _=>bu) (fun _ _ _ _ _=>(bG (r:=Py) wO U B.int_ zX (a1 (dX vy (pxT K (pv 1) (pv 0)) (pxT K (pv 2) aj)))))))) (pxT K (pv 0) aj)))
 (aq (ifR (aU dg (pxT K (pv 0) aj) bK) (aL (r:=GX K) (lY U) U B.all_ Az (a1 (bh (L:=["_law_part"]) (F:=Zp) (cap:=[1]) U (aV U U (by kernel_rfl)) (fX (pxT K (pv 0) aj)) (fun _ _ _ _ _=>(pgC 0)) (fun _ _ _ _ _=>bu) (fun _ _ _ _ _=>(aP VW hr (v2 0 1)))))))
 (sR (Ry (dX dg (pxT K (pv 0) aj) bK) (xr (wI (dX dg (pxT K (pv 0) aj) bK) (xr (aL (r:=M9 K) (xX U) U B.any_ Lp (a1 (bh (L:=["_law_part"]) (F:=Zp) (cap:=[1]) U (aV U U (by kernel_rfl)) (fX (pxT K (pv 0) aj)) (fun _ _ _ _ _=>(pgC 0)) (fun _ _ _ _ _=>bu) (fun _ _ _ _ _=>(aP VW hr (v2 0 1))))))))))))))),?_⟩
 have parts:∀ (D:Addr),H D=none->∀ (b:Addr) (us:Lo) (ts:List Tm) (Z:Hp->Prop) (te:TE),us.length<=6->H b=some (.tup us)->dJ n H us ts->tdL ts<=d →
   (∀ (x:V) (t:Tm) (σ':St) (H2:Hp) (R:V->Hp->Prop),oG n H2 x t->aG H H2->t.dep<=d->σ'=[some x,oR g]->(∀ H3,aG H2 H3->R (.bl (hF ns t)) H3)->te σ' H2 R) →
   (∀ H2:Hp,aG H H2->H2 D=some (.lst ((ts.map (hF ns)).map V.bl))->Z H2)->iw D [none,some (.ref g)] (Itt K b) (vg 0) JC te H Z:=fun D hD b us ts Z te lu hb rl td hte hQ=>by
  have el:=rl.length
  refine dW (K:=K) (a:=b) (xs:=us) (fun i zs σ' H2=>(∃ u,σ'=[u,oR g])/\zs=((ts.take i).map (hF ns)).map V.bl/\aG H H2/\H2 D=some (.lst zs))
   ⟨⟨_,U⟩,U,aA hD _,aa⟩ (fun i zs σ' H2 _ h=>⟨fL h.2.2.1 (sqT hb),h.2.2.2⟩) ?_ ?_
  ·rintro j zs x σ' H2 hx ⟨⟨u,rfl⟩,e1,sm,hDl⟩
   obtain⟨t,ht,rt⟩:=rl.get hx
   have hj:j < us.length:=(geS hx).1
   refine gT ?_
   refine hte x t _ H2 _ (rt.mono sm) sm (Vd (nU ht) td) U fun H3 s3=>⟨s3 _ _ hDl,?_,⟨_,U⟩,?_,aF (sm.trans s3) hD _,aa⟩
   ·rw[e1,Tw,Tw,Uj]
    exact aB (by lia)
   ·rw[e1,Ux,ht,T9,T9]
    rfl
  ·rintro zs σ' H2 ⟨⟨u,rfl⟩,e1,sm,hDl⟩
   rw[el,Ul] at e1
   exact hQ H2 sm (by rw[hDl,e1])
 cases rt with
 | @free a ha =>
  refine⟨_,U,a,_,_,_,U,U,sqT ha,gt0,U,_,U,gk fQ ⟨_,U,a,_,_,_,U,U,sqT ha,gt0,U,_,U,gk fQ ⟨_,U,a,_,_,_,U,U,sqT ha,gt0,U,_,U,gk fQ ⟨_,U,a,_,_,_,U,U,sqT ha,gt0,U,_,U,gk fQ ⟨_,U,a,_,_,_,U,U,sqT ha,gt0,U,_,U,DN U ?_⟩⟩⟩⟩⟩
  have q':=q H (aG.refl H)
  rw[hF] at q'
  exact q'
 | @never a ha =>
  refine⟨_,U,a,_,_,_,U,U,sqT ha,gt0,U,_,U,gk fQ ⟨_,U,a,_,_,_,U,U,sqT ha,gt0,U,_,U,gk fQ ⟨_,U,a,_,_,_,U,U,sqT ha,gt0,U,_,U,gk fQ ⟨_,U,a,_,_,_,U,U,sqT ha,gt0,U,_,U,gk fQ ⟨_,U,a,_,_,_,U,U,sqT ha,gt0,U,_,U,gk fQ ⟨_,U,a,_,_,_,U,U,sqT ha,gt0,U,_,U,gk fQ ?_⟩⟩⟩⟩⟩⟩
  have q':=q H (aG.refl H)
  rw[hF] at q'
  exact q'
 | @gives a i k ha hi _ _ =>
  refine⟨_,U,a,_,_,_,U,U,sqT ha,gt0,U,_,U,DN U ⟨_,U,_,U,a,_,_,_,U,U,sqT ha,gt1,g,_,_,_,U,U,hg,atD (by lia),_,U,a,_,_,_,U,U,sqT ha,gt2,_,_,U,U,?_⟩⟩
  have q':=q H (aG.refl H)
  rw[hF] at q'
  exact q'
 | @sum a b c k ha hb hc _ hl _ _ _ =>
  refine⟨_,U,a,_,_,_,U,U,sqT ha,gt0,U,_,U,gk fQ ⟨_,U,a,_,_,_,U,U,sqT ha,gt0,U,_,U,DN U ?_⟩⟩
  refine⟨_,U,a,_,_,_,U,U,sqT ha,gt1,b,U,⟨_,sqT hb⟩,fun D hD=>dW (K:=K) (a:=b) (xs:=c.map vN) (fun i zs σ' H2=>(∃ u,σ'=[u,oR g])/\zs=((c.take i).map fun i=>ns.getD i 0).map V.int/\aG H H2/\H2 D=some (.lst zs))
   ⟨⟨_,U⟩,U,aA hD _,aa⟩ (fun i zs σ' H2 _ h=>⟨fL h.2.2.1 (sqT hb),h.2.2.2⟩) ?_ ?_⟩
  ·rintro j zs x σ' H2 hx ⟨⟨u,rfl⟩,e1,sm,hDl⟩
   obtain⟨i,hi,rfl⟩:=pM hx
   have hin:i < n:=hc i (Ud hi)
   refine gT ?_
   refine⟨_,U,_,U,g,_,_,_,U,U,fL sm hg,atD (by lia),hDl,?_,⟨_,U⟩,?_,aF sm hD _,aa⟩
   ·rw[e1,Tw,Tw,Uj]
    exact aB (by lia)
   ·rw[e1,Ux,hi,T9,T9]
    rfl
  ·rintro zs σ' H2 ⟨⟨u,rfl⟩,e1,sm,hDl⟩
   rw[Tw,Ul] at e1
   refine⟨D,_,U,sqL (by rw[hDl,e1]),_,U,a,_,_,_,U,U,sqT (sm _ _ ha),gt2,_,_,U,U,?_⟩
   have q':=q H2 sm
   rw[hF] at q'
   exact q'
 | @crowd a b c k m ha hb hc _ hl _ _ _ _ _ =>
  refine⟨_,U,a,_,_,_,U,U,sqT ha,gt0,U,_,U,gk fQ ⟨_,U,a,_,_,_,U,U,sqT ha,gt0,U,_,U,gk fQ ⟨_,U,a,_,_,_,U,U,sqT ha,gt0,U,_,U,DN U ?_⟩⟩⟩
  refine⟨_,U,a,_,_,_,U,U,sqT ha,gt1,b,U,⟨_,sqT hb⟩,fun D hD=>dW (K:=K) (a:=b) (xs:=c.map vN) (fun i zs σ' H2=>(∃ u,σ'=[u,oR g,oR a])/\zs=((c.take i).map fun i=>if decide (k<=ns.getD i 0)=true then (1:Int) else 0).map V.int/\aG H H2/\H2 D=some (.lst zs))
   ⟨⟨_,U⟩,U,aA hD _,aa⟩ (fun i zs σ' H2 _ h=>⟨fL h.2.2.1 (sqT hb),h.2.2.2⟩) ?_ ?_⟩
  ·rintro j zs x σ' H2 hx ⟨⟨u,rfl⟩,e1,sm,hDl⟩
   obtain⟨i,hi,rfl⟩:=pM hx
   have hin:i < n:=hc i (Ud hi)
   refine gT ?_
   refine⟨_,U,_,U,g,_,_,_,U,U,fL sm hg,atD (by lia),_,U,a,_,_,_,U,U,sqT (sm _ _ ha),gt2,_,_,U,U,.inr ⟨_,U,hDl,?_,⟨_,U⟩,?_,aF sm hD _,aa⟩⟩
   ·rw[e1,Tw,Tw,Uj]
    exact aB (by lia)
   ·rw[e1,Ux,hi,T9,T9]
    rfl
  ·rintro zs σ' H2 ⟨⟨u,rfl⟩,e1,sm,hDl⟩
   rw[Tw,Ul] at e1
   refine⟨D,_,U,sqL (by rw[hDl,e1]),_,U,a,_,_,_,U,U,sqT (sm _ _ ha),cV (k:=3) U,_,_,U,U,?_⟩
   have q':=q H2 sm
   rw[hF] at q'
   rw[BK]
   exact q'
 | @all a b us ts ha hb _ lu rl =>
  refine⟨_,U,a,_,_,_,U,U,sqT ha,gt0,U,_,U,gk fQ ⟨_,U,a,_,_,_,U,U,sqT ha,gt0,U,_,U,gk fQ ⟨_,U,a,_,_,_,U,U,sqT ha,gt0,U,_,U,gk fQ ⟨_,U,a,_,_,_,U,U,sqT ha,gt0,U,_,U,DN U ⟨_,U,a,_,_,_,U,U,sqT ha,gt1,b,U,⟨_,sqT hb⟩,fun D hD=>parts D hD b us ts _ _ lu hb rl (by rw[Tm.dep] at hd;lia) (fun x t σ' H2 R rt sm dt eσ hR=>?_) fun H2 sm hDl=>?_⟩⟩⟩⟩⟩
  ·subst eσ
   exact⟨_,U,_,U,x,g,n,t,ns,U,rt,dt,fL sm hg,hn,hR⟩
  ·refine⟨D,_,U,sqL hDl,?_⟩
   rw[Ei]
   have q':=q H2 sm
   rw[hF] at q'
   exact q'
 | @any a b us ts ha hb _ lu rl =>
  refine⟨_,U,a,_,_,_,U,U,sqT ha,gt0,U,_,U,gk fQ ⟨_,U,a,_,_,_,U,U,sqT ha,gt0,U,_,U,gk fQ ⟨_,U,a,_,_,_,U,U,sqT ha,gt0,U,_,U,gk fQ ⟨_,U,a,_,_,_,U,U,sqT ha,gt0,U,_,U,gk fQ ⟨_,U,a,_,_,_,U,U,sqT ha,gt0,U,_,U,gk fQ ⟨_,U,a,_,_,_,U,U,sqT ha,gt0,U,_,U,DN U ⟨_,U,a,_,_,_,U,U,sqT ha,gt1,b,U,⟨_,sqT hb⟩,fun D hD=>parts D hD b us ts _ _ lu hb rl (by rw[Tm.dep] at hd;lia) (fun x t σ' H2 R rt sm dt eσ hR=>?_) fun H2 sm hDl=>?_⟩⟩⟩⟩⟩⟩⟩
  ·subst eσ
   exact⟨_,U,_,U,x,g,n,t,ns,U,rt,dt,fL sm hg,hn,hR⟩
  ·refine⟨D,_,U,sqL hDl,?_⟩
   rw[Eo]
   have q':=q H2 sm
   rw[hF] at q'
   exact q'
theorem MN {e:Expr}{es:IJ}{env:Env}(h:∀ x p,e≠.Starred x p):U9 (e::es) env=(false,W8 e env)::U9 es env:=by
 rw[U9]
 intro x p z
 exact h x p z
theorem cL {X:Cx}{e:Expr}{es:IJ}{te:TE}{t:TA}(ha:PE X e te)(hr:PA X es t)(h:∀ x p,e≠.Starred x p:=by intro x p z;cases z):PA X (e::es) (dI te t):=au ha hr (MN h)
theorem uo (ns:IN)(lo hi:IG):∃ ks:IN,xZ (ns.map V.int) lo hi=ks.map V.int/\ks.length<=ns.length:=by
 unfold xZ
 generalize HT.sIx _ _ lo=x
 generalize HT.sIx _ _ hi=y
 refine⟨(ns.drop x).take (y - x),by rw[List.map_take,List.map_drop],?_⟩
 rw[Uj,V4]
 lia
theorem Ay:∀ (ns acc:IN),acc.Nodup->(ns.foldl Ww acc).Nodup
 | [],acc,h=>h
 | n::r,acc,h=>by
  rw[Vw]
  refine Ay r _ ?_
  unfold Ww
  split
  ·exact h
  ·rename_i z
   rw[Zb]
   refine⟨h,by simp,fun a ha b hb e=>?_⟩
   rw[WY] at hb
   subst hb
   subst e
   exact z (List.any_eq_true.mpr ⟨a,ha,beq_self_eq_true a⟩)
theorem El:∀ (ns acc:IN),(ns.foldl Ww acc).length<=acc.length+ns.length
 | [],acc=>by simp
 | n::r,acc=>by
  rw[Vw]
  refine Vd (El r _) ?_
  unfold Ww
  split
  ·rw[Um];lia
  ·simp only[Uh,Um,List.length_nil];lia
theorem Lf (ns:IN):ddI ns=ns.foldl Ww []:=by
 unfold ddI PyProof.Rows.firstMet
 congr 1
 apply abB
 intro i
 rw[Uo]
 by_cases h:i < ns.length
 ·rw[Wd h,TJ h]
  simp [TQ,TJ h]
 ·have e1:(Ui ns.length)[i]? = none:=Vz (by rw[UJ];lia)
  rw[e1,Vz (by lia)]
  rfl
theorem sI:∀ {a b:IN},a.Perm b->a.Pairwise (·<=·)->b.Pairwise (·<=·)->a=b
 | [],b,p,_,_=>(List.Perm.nil_eq p)
 | x::a,[],p,_,_=>absurd p.length_eq (by simp)
 | x::a,y::b,p,ha,hb=>by
  rw[Wu] at ha hb
  have h1:x<=y:=by
   rcases List.mem_cons.mp (p.mem_iff.mpr TY) with h | h
   ·lia
   ·exact ha.1 y h
  have h2:y<=x:=by
   rcases List.mem_cons.mp (p.mem_iff.mp TY) with h | h
   ·lia
   ·exact hb.1 x h
  have e:x=y:=by lia
  subst e
  rw[sI (List.Perm.cons_inv p) ha.2 hb.2]
abbrev Pl:=List (Int × Tm)
inductive fJ (n:Nat)(H:Hp):Lo->Pl->Prop where
 | nil:fJ n H [] []
 | cons {r:Addr} {k:Int} {v:V} {t:Tm} {vs:Lo} {ps:Pl}:H r=some (.tup [.int k,v])->oG n H v t->fJ n H vs ps->fJ n H (.ref r::vs) ((k,t)::ps)
theorem fJ.aY {n:Nat}{H H':Hp}(e:∀ a xs,H a=some (HO.tup xs)->H' a=some (HO.tup xs)):∀ {vs:Lo} {ps:Pl},fJ n H vs ps->fJ n H' vs ps
 | _,_,.nil=>.nil
 | _,_,.cons h t r=>.cons (e _ _ h) (t.aY e) (fJ.aY e r)
theorem fJ.length {n:Nat}{H:Hp}:∀ {vs:Lo} {ps:Pl},fJ n H vs ps->vs.length=ps.length
 | _,_,.nil=>rfl
 | _,_,.cons _ _ r=>by rw[Um,Um,fJ.length r]
theorem fJ.get {n:Nat}{H:Hp}:∀ {vs:Lo} {ps:Pl} {i:Nat} {v:V},fJ n H vs ps->vs[i]? = some v->∃ r k u t,v = .ref r/\H r=some (.tup [.int k,u])/\oG n H u t/\ps[i]? = some (k,t)
 | _,_,_,_,.nil,h=>by simp at h
 | _,_,0,_,.cons h t _,e=>by
  cases (show some _=some _ from e)
  exact⟨_,_,_,_,U,h,t,U⟩
 | _,_,i+1,_,.cons _ _ r,e=>by
  obtain⟨a,k,u,t,h1,h2,h3,h4⟩:=fJ.get (i:=i) r (by simpa using e)
  exact⟨a,k,u,t,h1,h2,h3,by simpa using h4⟩
theorem fJ.snoc {n:Nat}{H:Hp}{r:Addr}{k:Int}{v:V}{t:Tm}(h:H r=some (.tup [.int k,v]))(ht:oG n H v t):∀ {vs:Lo} {ps:Pl},fJ n H vs ps->fJ n H (vs++[.ref r]) (ps++[(k,t)])
 | _,_,.nil=>.cons h ht .nil
 | _,_,.cons a b c=>.cons a b (fJ.snoc h ht c)
def okP (p:Pl):Prop:=p≠[]/\p.length<=9/\(p.map (·.1)).Pairwise (· < ·)/\∀ x∈p,1<=x.1/\x.1<=9/\x.2.dep<=4
def Bl (n:Nat)(H:Hp)(a:Addr)(p:Pl):Prop:=okP p/\∃ vs,H a=some (.tup vs)/\fJ n H vs p
theorem Bl.aY {n:Nat}{H H':Hp}{a:Addr}{p:Pl}(e:∀ a xs,H a=some (HO.tup xs)->H' a=some (HO.tup xs))(h:Bl n H a p):Bl n H' a p:=by
 obtain⟨ok,vs,h1,h2⟩:=h
 exact⟨ok,vs,e _ _ h1,h2.aY e⟩
theorem Bl.mono {n:Nat}{H H':Hp}{a:Addr}{p:Pl}(e:aG H H')(h:Bl n H a p):Bl n H' a p:=h.aY fun a xs q=>e a _ q
inductive cJ (n:Nat)(H:Hp):II->List Pl->Prop where
 | nil:cJ n H [] []
 | cons {a:Addr} {p:Pl} {as:II} {ps:List Pl}:Bl n H a p->cJ n H as ps->cJ n H (a::as) (p::ps)
theorem cJ.aY {n:Nat}{H H':Hp}(e:∀ a xs,H a=some (HO.tup xs)->H' a=some (HO.tup xs)):∀ {as:II} {ps:List Pl},cJ n H as ps->cJ n H' as ps
 | _,_,.nil=>.nil
 | _,_,.cons h r=>.cons (h.aY e) (cJ.aY e r)
theorem cJ.length {n:Nat}{H:Hp}:∀ {as:II} {ps:List Pl},cJ n H as ps->as.length=ps.length
 | _,_,.nil=>rfl
 | _,_,.cons _ r=>by rw[Um,Um,cJ.length r]
theorem cJ.get {n:Nat}{H:Hp}:∀ {as:II} {ps:List Pl} {i:Nat} {a:Addr},cJ n H as ps->as[i]? = some a->∃ p,ps[i]? = some p/\Bl n H a p
 | _,_,_,_,.nil,h=>by simp at h
 | _,_,0,_,.cons h _,e=>by
  cases (show some _=some _ from e)
  exact⟨_,U,h⟩
 | _,_,i+1,_,.cons _ r,e=>by
  obtain⟨p,h1,h2⟩:=cJ.get (i:=i) r (by simpa using e)
  exact⟨p,by simpa using h1,h2⟩
theorem cJ.snoc {n:Nat}{H:Hp}{a:Addr}{p:Pl}(h:Bl n H a p):∀ {as:II} {ps:List Pl},cJ n H as ps->cJ n H (as++[a]) (ps++[p])
 | _,_,.nil=>.cons h .nil
 | _,_,.cons x r=>.cons x (cJ.snoc h r)
inductive cH (n:Nat)(H:Hp):Lo->List (List Pl)->Prop where
 | nil:cH n H [] []
 | cons {c:Addr} {as:II} {ps:List Pl} {us:Lo} {bs:List (List Pl)}:H c=some (.lst (as.map V.ref))->as.length<=100->cJ n H as ps->cH n H us bs->cH n H (.ref c::us) (ps::bs)
theorem cH.mono {n:Nat}{H H':Hp}(e:aG H H'):∀ {us:Lo} {bs:List (List Pl)},cH n H us bs->cH n H' us bs
 | _,_,.nil=>.nil
 | _,_,.cons h l p r=>.cons (e _ _ h) l (p.aY fun a xs q=>e a _ q) (cH.mono e r)
theorem cH.length {n:Nat}{H:Hp}:∀ {us:Lo} {bs:List (List Pl)},cH n H us bs->us.length=bs.length
 | _,_,.nil=>rfl
 | _,_,.cons _ _ _ r=>by rw[Um,Um,cH.length r]
theorem cH.get {n:Nat}{H:Hp}:∀ {us:Lo} {bs:List (List Pl)} {i:Nat} {u:V},cH n H us bs->us[i]? = some u->∃ c as ps,u = .ref c/\bs[i]? = some ps/\H c=some (.lst (as.map V.ref))/\as.length<=100/\cJ n H as ps
 | _,_,_,_,.nil,h=>by simp at h
 | _,_,0,_,.cons h l p _,e=>by
  cases (show some _=some _ from e)
  exact⟨_,_,_,U,U,h,l,p⟩
 | _,_,i+1,_,.cons _ _ _ r,e=>by
  obtain⟨c,as,ps,h1,h2,h3⟩:=cH.get (i:=i) r (by simpa using e)
  exact⟨c,as,ps,h1,by simpa using h2,h3⟩
theorem cH.snoc {n:Nat}{H:Hp}{c:Addr}{as:II}{ps:List Pl}(h:H c=some (.lst (as.map V.ref)))(hl:as.length<=100)(hp:cJ n H as ps):∀ {us:Lo} {bs:List (List Pl)},cH n H us bs->cH n H (us++[.ref c]) (bs++[ps])
 | _,_,.nil=>.cons h hl hp .nil
 | _,_,.cons x y z r=>.cons x y z (cH.snoc h hl hp r)
def rO (n:Nat)(H:Hp)(b:Addr)(bk:List (List Pl)):Prop:=∃ us,H b=some (.lst us)/\cH n H us bk/\bk.length<=12
theorem rO.mono {n:Nat}{H H':Hp}{b:Addr}{bk:List (List Pl)}(e:aG H H')(h:rO n H b bk):rO n H' b bk:=by
 obtain⟨us,h1,h2,h3⟩:=h
 exact⟨us,e _ _ h1,h2.mono e,h3⟩
def owS (g:IN)(f:Int)(x:Int × Tm):Int:=if hF g x.2=true then x.1 else f
def owF (g:IN)(p:Pl):Int:=p.foldl (owS g) 0
theorem Bf {g:IN}{p:Pl}{i:Nat}{x:Int × Tm}(h:p[i]? = some x):owF g (p.take (i+1))=if hF g x.2=true then x.1 else owF g (p.take i):=by
 unfold owF
 rw[Ux,h]
 show ((p.take i)++[x]).foldl (owS g) 0=_
 rw[abz]
 rfl
def lsF (p:Pl):Int:=mxD 0 (p.map (·.1))
theorem oW:∀ (l:IN) (a x:Int),(∀ y∈l,y<=x)->a<=x->(l++[x]).foldl max a=x
 | [],a,x,_,h=>by show max a x=x;lia
 | y::l,a,x,hl,h=>by
  rw[abQ,Vw]
  exact oW l (max a y) x (fun z hz=>hl z (TX _ hz)) (by have:=hl y TY;lia)
theorem yH {l:IN}{x:Int}(h:(l++[x]).Pairwise (· < ·)):∀ y∈l,y<=x:=fun y hy=>by
 rw[Xw] at h
 have:=h.2.2 y hy x TY
 lia
theorem Ja {q:Pl}{x:Int × Tm}(h:((q++[x]).map (·.1)).Pairwise (· < ·)):lsF (q++[x])=x.1:=by
 rw[T9] at h
 have hl:=yH (l:=q.map (·.1)) (x:=x.1) h
 unfold lsF
 rw[T9]
 cases q with
 | nil=>rfl
 | cons y q =>
  show ((q.map (·.1))++[x.1]).foldl max y.1=x.1
  exact oW _ _ _ (fun z hz=>hl z (TX _ hz)) (hl y.1 TY)
theorem mD:∀ (l:IN) (a b:Int),l.foldl max (max a b)=max a (l.foldl max b)
 | [],a,b=>rfl
 | y::l,a,b=>by
  rw[Vw,Vw,show max (max a b) y=max a (max b y) by lia]
  exact mD l a (max b y)
def duF (g:IN)(f:Int)(ps:List Pl):Int:=(ps.map (owF g)).foldl max f
theorem pF (g:IN){f:Int}(hf:0<=f)(ps:List Pl):duF g f ps=max f (duF g 0 ps):=by
 unfold duF
 rw[← mD,show max f 0=f by lia]
def cU (g:IN)(fl:IN)(bk:List (List Pl)):IN:=Yb (duF g) fl bk
def rfS (f:Int)(ps:List Pl):Int:=(ps.map lsF).foldl max f
def rfF (fl:IN)(bk:List (List Pl)):IN:=Yb rfS fl bk
theorem uw {α β γ:Type}(f:α->β->γ){xs:List α}{ys:List β}{i:Nat}{x:α}{y:β}(h1:xs[i]? = some x)(h2:ys[i]? = some y):Yb f (xs.take (i+1)) (ys.take (i+1))=Yb f (xs.take i) (ys.take i)++[f x y]:=by
 have l1:i < xs.length:=(geS h1).1
 have l2:i < ys.length:=(geS h2).1
 rw[Ux,Ux,h1,h2]
 show Yb f (xs.take i++[x]) (ys.take i++[y])=_
 rw[List.zipWith_append (by rw[Uj,Uj];lia)]
 rfl
theorem xR {as:II}{i:Nat}{x:V}(h:(as.map V.ref)[i]? = some x):∃ a,as[i]? = some a/\x = .ref a:=by
 rw[Uo] at h
 cases e:as[i]? with
 | none=>rw[e] at h;cases h
 | some a=>rw[e] at h;exact⟨a,U,(U4 h).symm⟩
theorem take_snoc {α β:Type}(f:α->β){xs:List α}{i:Nat}{x:α}(h:xs[i]? = some x):(xs.take (i+1)).map f=(xs.take i).map f++[f x]:=(uv f h).symm
abbrev FQ:Stmt:=top 7
theorem zx:aK ["pledge","giving","step","term"] Zs (aD FQ):=gC
inductive vI (K:UT)(vs:Lo)(H:Hp)(Q:VK)(e3:XK):Prop where
 | mk (a g:Addr) (n:Nat) (p:Pl) (ns:IN) (_:vs=[.ref a,.ref g]) (_:Bl n H a p) (_:SqT K H g (ns.map V.int)) (_:n<=ns.length) (_:∀ H',aG H H'->Q (.int (owF ns p)) H')
theorem MJ {k:Nat} (F:Fun K "owes" "owes" FQ f fd) (B:Bt mg)
  (UZ:Df P w K mg base "holds" k ZE (eQ K 4)):dF P w K mg base CX0 (k+1) f fd Zs (vI K):=by
 refine okA F zx fun H Q E hr h=>?_
 obtain⟨a,g,n,p,ns,rfl,⟨ok,vs,ha,rp⟩,hg,hn,q⟩:=h
 refine⟨_,(aq (cW U3 U (Qe U B.reversed_ (v1 0)) (du (K:=K) 2 U U (aQ (pgN 2 zx.nd) (aQ (pgN 3 zx.nd) dw))) (aO (ifR (iQ (aP UZ hr (v2 3 1))) (pv 2))))
 (sR aj)),?_⟩
 have el:=rp.length
 refine⟨_,U,a,vs,U,sqT ha,Ow (K:=K) (a:=a) (xs:=vs) (fun i σ H2=>(∃ u v,σ=[oR a,oR g,u,v])/\aG H H2/\owF ns p=owF ns (p.take (p.length - i)))
  ⟨⟨_,_,U⟩,aG.refl H,by rw[Nat.sub_zero,Ul]⟩ (fun i σ H2 _ h=>sqT (h.2.1 _ _ ha)) ?_ ?_⟩
 ·rintro i x σ H2 hi hx ⟨⟨u,v,rfl⟩,sm,ow⟩
  obtain⟨r,k0,y,t,rfl,hr0,rt,hp⟩:=rp.get hx
  have hm:=Ud hp
  have e1:p.length - i=vs.length - 1 - i+1:=by lia
  have e2:p.length - (i+1)=vs.length - 1 - i:=by lia
  rw[e1,Bf hp] at ow
  refine⟨r,_,U,sqT (sm _ _ hr0),U,_,_,U,_,_,U,U,_,U,_,U,y,g,n,t,ns,U,rt.mono sm,(ok.2.2.2 _ hm).2.2,fL sm hg,hn,fun H3 s3=>⟨_,U,?_⟩⟩
  cases e:hF ns t with
  | true =>
   refine gF ⟨_,U,?_⟩
   rw[iPo e] at ow
   have q':=q H3 (sm.trans s3)
   rw[ow] at q'
   exact q'
  | false =>
   refine fC ⟨⟨_,_,U⟩,sm.trans s3,?_⟩
   rw[iNe (by rw[e];exact Uc)] at ow
   rw[e2]
   exact ow
 ·rintro σ H2 ⟨⟨u,v,rfl⟩,sm,ow⟩
  rw[el,abu,Vs] at ow
  have q':=q H2 sm
  rw[ow] at q'
  exact q'
abbrev lJ:Stmt:=top 8
theorem v5:aK ZU ZU (aD lJ):=gC
inductive Le (vs:Lo)(H:Hp)(Q:VK)(e3:XK):Prop where
 | mk (a:Addr) (n:Nat) (p:Pl) (_:vs=[.ref a]) (_:Bl n H a p) (_:∀ H',aG H H'->Q (.int (lsF p)) H')
theorem xT (F:Fun K "last_step" "last_step" lJ f fd) (B:Bt mg) :
  dF P w K mg base CX0 1 f fd ZU Le:=by
 refine okA F v5 fun H Q E hr h=>?_
 obtain⟨a,n,p,rfl,⟨ok,vs,ha,rp⟩,q⟩:=h
 refine⟨_,(sR (NP U U B.max_ (a1 (bh (L:=["step","term"]) (F:=[]) (cap:=[]) U (aV U U (by kernel_rfl)) (fX (pv 0)) (fun _ _ _ _ _=>(du (K:=K) 2 U U (aQ (pgC 0) (aQ (pgC 1) dw)))) (fun _ _ _ _ _=>bu) (fun _ _ _ _ _=>(pv 0)))))),?_⟩
 have el:=rp.length
 have l9:=ok.2.1
 refine⟨_,U,a,U,⟨_,sqT ha⟩,fun D hD=>dW (K:=K) (a:=a) (xs:=vs) (fun i zs σ' H2=>(∃ u v,σ'=[u,v])/\zs=((p.take i).map (·.1)).map V.int/\aG H H2/\H2 D=some (.lst zs))
  ⟨⟨_,_,U⟩,U,aA hD _,aa⟩ (fun i zs σ' H2 _ h=>⟨sqT (h.2.2.1 _ _ ha),h.2.2.2⟩) ?_ ?_⟩
 ·rintro j zs x σ' H2 hx ⟨⟨u,v,rfl⟩,e1,sm,hDl⟩
  obtain⟨r,k0,y,t,rfl,hr0,rt,hp⟩:=rp.get hx
  refine⟨r,_,U,sqT (sm _ _ hr0),U,_,_,U,_,_,U,U,?_⟩
  refine tT ?_
  refine⟨_,U,hDl,?_,⟨_,_,U⟩,?_,aF sm hD _,aa⟩
  ·rw[e1,Tw,Tw,Uj]
   exact aB (by lia)
  ·rw[e1,take_snoc (·.1) hp,T9]
   rfl
 ·rintro zs σ' H2 ⟨_,e1,sm,hDl⟩
  rw[el,Ul] at e1
  refine⟨D,p.map (·.1),U,sqL (by rw[hDl,e1]),?_⟩
  exact q H2 sm
abbrev iZ:Stmt:=top 10
theorem rJ:aK YO YO (aD iZ):=gC
inductive QS (K:UT)(vs:Lo)(H:Hp)(Q:VK)(e3:XK):Prop where
 | mk (b f g:Addr) (n:Nat) (bk:List (List Pl)) (fl ns:IN) (_:vs=[.ref b,.ref f,.ref g]) (_:rO n H b bk) (_:SqT K H f (fl.map V.int)) (_:SqT K H g (ns.map V.int)) (_:fl.length=bk.length) (_:n<=ns.length) (_:(∀ x∈fl,0<=x)) (_:∀ (r:Addr) (H':Hp),aG H H'->H' r=some (.tup ((cU ns fl bk).map V.int))->Q (.ref r) H')
theorem rE {k:Nat} (F:Fun K "what_is_due" "what_is_due" iZ f fd) (B:Bt mg)
  (WU:Df P w K mg base "owes" k Zs (vI K)):dF P w K mg base CX0 (k+1) f fd YO (QS K):=by
 refine okA F rJ fun H Q E hr h=>?_
 obtain⟨b,f,g,n,bk,fl,ns,rfl,⟨us,hb,rb,l12⟩,hf,hg,hl,hn,h0,q⟩:=h
 refine⟨_,(sR (bG (r:=fH K) bw U B.tuple_ bW (a1 (bh (L:=["step","pledges"]) (F:=["giving"]) (cap:=[2]) U (aV U U (by kernel_rfl)) (K7 U B.zip_ (v2 1 0)) (fun _ _ _ _ _=>(du (K:=K) 2 U U (aQ (pgC 0) (aQ (pgC 1) dw)))) (fun _ _ _ _ _=>bu) (fun _ _ _ _ _=>(aL (r:=Dc K) (jQ U) U B.max_ oF (a1 (aH lX (aX (v1 0)) (bh (L:=ZU) (F:=["giving"]) (cap:=[2]) U (aV U U (by kernel_rfl)) (o7 K U (pv 1)) (fun _ _ _ _ _=>(pgC 0)) (fun _ _ _ _ _=>bu) (fun _ _ _ _ _=>(aP WU hr (v2 0 1)))))))))))),?_⟩
 have el:=rb.length
 refine⟨_,U,_,U,f,b,_,_,U,hf,sqL hb,fun D hD=>BR (K:=K) (a:=f) (b:=b) (xs:=fl.map V.int) (ys:=us) (by rw[Tw];lia)
  (fun i zs σ H2=>(∃ u v,σ=[u,v,oR g])/\zs=(Yb (duF ns) (fl.take i) (bk.take i)).map V.int/\aG H H2/\H2 D=some (.lst zs)) ⟨⟨_,_,U⟩,U,aA hD _,aa⟩ (fun i zs σ H2 _ h=>⟨fL h.2.2.1 hf,sqL (h.2.2.1 _ _ hb),h.2.2.2⟩) ?_ ?_⟩
 ·rintro i zs x y p σ H2 hx hy hp ⟨⟨u,v,rfl⟩,e1,sm,hDl⟩
  obtain⟨m,hm,rfl⟩:=int_at hx
  obtain⟨c,as,ps,rfl,hps,hc,l100,rps⟩:=rb.get hy
  have ell:=rps.length
  generalize eH3:upd H2 p _=H3
  obtain⟨g3,e3⟩:=aC eH3 hp
  refine⟨p,_,U,sqT e3,U,_,_,U,_,_,U,U,?_⟩
  refine tT ?_
  refine⟨_,U,smN 1,fun p4 h4=>?_⟩
  generalize eH4:upd H3 p4 _=H4
  obtain⟨g4,e4⟩:=aC eH4 h4
  have s4:aG H H4:=sm.trans (g3.trans g4)
  refine⟨_,U,c,U,⟨_,sqL (s4 _ _ hc)⟩,fun D2 hD2=>bV (K:=K) (a:=c) (xs:=as.map V.ref) (fun j ws σ' H5=>(∃ u,σ'=[u,oR g])/\ws=((ps.take j).map (owF ns)).map V.int/\aG H4 H5/\H5 D2=some (.lst ws))
   ⟨⟨_,U⟩,U,aA hD2 _,aa⟩ (fun j ws σ' H5 _ h=>⟨sqL (h.2.2.1 _ _ (s4 _ _ hc)),h.2.2.2⟩) ?_ ?_⟩
  ·rintro j ws x σ' H5 hx ⟨⟨u,rfl⟩,e5,s5,hD5⟩
   obtain⟨a,ha,rfl⟩:=xR hx
   obtain⟨pl,hpl,rpl⟩:=rps.get ha
   refine gT ?_
   refine⟨_,U,_,U,a,g,n,pl,ns,U,rpl.mono (s4.trans s5),fL (s4.trans s5) hg,hn,fun H6 s6=>⟨s6 _ _ hD5,?_,⟨_,U⟩,?_,aF (s5.trans s6) hD2 _,aa⟩⟩
   ·rw[e5,Tw,Tw,Uj]
    exact aB (by lia)
   ·rw[e5,take_snoc (owF ns) hpl,T9]
    rfl
  ·rintro ws σ' H5 ⟨_,e5,s5,hD5⟩
   rw[Tw,ell,Ul] at e5
   subst e5
   refine⟨p4,D2,_,_,U,U,s5 _ _ e4,hD5,small ?_,fun p6 h6=>?_⟩
   ·rw[Tw,Tw]
    show 1+ps.length<=1000
    lia
   generalize eH6:upd H5 p6 _=H6
   obtain⟨g6,e6⟩:=aC eH6 h6
   have sall:aG H2 H6:=g3.trans (g4.trans (s5.trans g6))
   refine⟨p6,m::ps.map (owF ns),U,sqL e6,by simp,sall _ _ hDl,?_,⟨_,_,U⟩,?_,aF (sm.trans sall) hD _,aa⟩
   ·rw[e1,Tw,YD,Uj]
    exact aB (by lia)
   ·rw[e1,uw (duF ns) hm hps,T9]
    rfl
 ·rintro zs σ H2 ⟨_,e1,sm,hDl⟩
  refine⟨D,_,U,.inl ⟨sqL hDl,fun l hl'=>?_⟩⟩
  refine q l _ (sm.trans (aA hl' _)) ?_
  rw[aa,e1,Tw,Ul,hl,Ul]
  rfl
theorem yZ {g fl:IN}{bk:List (List Pl)}(h:fl.length=bk.length):(cU g fl bk).length=bk.length:=by
 unfold cU
 rw[YD]
 lia
abbrev Hl:Stmt:=top 11
theorem Mw:aK ZI ZI (aD Hl):=gC
inductive Bg (K:UT)(vs:Lo)(H:Hp)(Q:VK)(e3:XK):Prop where
 | mk (b f:Addr) (n:Nat) (bk:List (List Pl)) (fl:IN) (_:vs=[.ref b,.ref f]) (_:rO n H b bk) (_:SqT K H f (fl.map V.int)) (_:fl.length=bk.length) (_:∀ (r:Addr) (H':Hp),aG H H'->H' r=some (.tup ((rfF fl bk).map V.int))->Q (.ref r) H')
theorem Nb (F:Fun K "roof" "roof" Hl f fd) (B:Bt mg)
  (U2:Df P w K mg base "last_step" 1 ZU Le):dF P w K mg base CX0 2 f fd ZI (Bg K):=by
 refine okA F Mw fun H Q E hr h=>?_
 obtain⟨b,f,n,bk,fl,rfl,⟨us,hb,rb,l12⟩,hf,hl,q⟩:=h
 refine⟨_,(sR (bG (r:=fH K) bw U B.tuple_ bW (a1 (bh (L:=["step","pledges"]) (F:=[]) (cap:=[]) U (aV U U (by kernel_rfl)) (K7 U B.zip_ (v2 1 0)) (fun _ _ _ _ _=>(du (K:=K) 2 U U (aQ (pgC 0) (aQ (pgC 1) dw)))) (fun _ _ _ _ _=>bu) (fun _ _ _ _ _=>(aL (r:=Dc K) (jQ U) U B.max_ oF (a1 (aH lX (aX (v1 0)) (bh (L:=ZU) (F:=[]) (cap:=[]) U (aV U U (by kernel_rfl)) (o7 K U (pv 1)) (fun _ _ _ _ _=>(pgC 0)) (fun _ _ _ _ _=>bu) (fun _ _ _ _ _=>(aP U2 hr (v1 0)))))))))))),?_⟩
 have el:=rb.length
 refine⟨_,U,_,U,f,b,_,_,U,hf,sqL hb,fun D hD=>BR (K:=K) (a:=f) (b:=b) (xs:=fl.map V.int) (ys:=us) (by rw[Tw];lia)
  (fun i zs σ H2=>(∃ u v,σ=[u,v])/\zs=(Yb rfS (fl.take i) (bk.take i)).map V.int/\aG H H2/\H2 D=some (.lst zs)) ⟨⟨_,_,U⟩,U,aA hD _,aa⟩ (fun i zs σ H2 _ h=>⟨fL h.2.2.1 hf,sqL (h.2.2.1 _ _ hb),h.2.2.2⟩) ?_ ?_⟩
 ·rintro i zs x y p σ H2 hx hy hp ⟨⟨u,v,rfl⟩,e1,sm,hDl⟩
  obtain⟨m,hm,rfl⟩:=int_at hx
  obtain⟨c,as,ps,rfl,hps,hc,l100,rps⟩:=rb.get hy
  have ell:=rps.length
  generalize eH3:upd H2 p _=H3
  obtain⟨g3,e3⟩:=aC eH3 hp
  refine⟨p,_,U,sqT e3,U,_,_,U,_,_,U,U,?_⟩
  refine tT ?_
  refine⟨_,U,smN 1,fun p4 h4=>?_⟩
  generalize eH4:upd H3 p4 _=H4
  obtain⟨g4,e4⟩:=aC eH4 h4
  have s4:aG H H4:=sm.trans (g3.trans g4)
  refine⟨_,U,c,U,⟨_,sqL (s4 _ _ hc)⟩,fun D2 hD2=>bV (K:=K) (a:=c) (xs:=as.map V.ref) (fun j ws σ' H5=>(∃ u,σ'=[u])/\ws=((ps.take j).map lsF).map V.int/\aG H4 H5/\H5 D2=some (.lst ws))
   ⟨⟨_,U⟩,U,aA hD2 _,aa⟩ (fun j ws σ' H5 _ h=>⟨sqL (h.2.2.1 _ _ (s4 _ _ hc)),h.2.2.2⟩) ?_ ?_⟩
  ·rintro j ws x σ' H5 hx ⟨⟨u,rfl⟩,e5,s5,hD5⟩
   obtain⟨a,ha,rfl⟩:=xR hx
   obtain⟨pl,hpl,rpl⟩:=rps.get ha
   refine gT ?_
   refine⟨_,U,a,n,pl,U,rpl.mono (s4.trans s5),fun H6 s6=>⟨s6 _ _ hD5,?_,⟨_,U⟩,?_,aF (s5.trans s6) hD2 _,aa⟩⟩
   ·rw[e5,Tw,Tw,Uj]
    exact aB (by lia)
   ·rw[e5,take_snoc lsF hpl,T9]
    rfl
  ·rintro ws σ' H5 ⟨_,e5,s5,hD5⟩
   rw[Tw,ell,Ul] at e5
   subst e5
   refine⟨p4,D2,_,_,U,U,s5 _ _ e4,hD5,small ?_,fun p6 h6=>?_⟩
   ·rw[Tw,Tw]
    show 1+ps.length<=1000
    lia
   generalize eH6:upd H5 p6 _=H6
   obtain⟨g6,e6⟩:=aC eH6 h6
   have sall:aG H2 H6:=g3.trans (g4.trans (s5.trans g6))
   refine⟨p6,m::ps.map lsF,U,sqL e6,by simp,sall _ _ hDl,?_,⟨_,_,U⟩,?_,aF (sm.trans sall) hD _,aa⟩
   ·rw[e1,Tw,YD,Uj]
    exact aB (by lia)
   ·rw[e1,uw rfS hm hps,T9]
    rfl
 ·rintro zs σ H2 ⟨_,e1,sm,hDl⟩
  refine⟨D,_,U,.inl ⟨sqL hDl,fun l hl'=>?_⟩⟩
  refine q l _ (sm.trans (aA hl' _)) ?_
  rw[aa,e1,Tw,Ul,hl,Ul]
  rfl
abbrev nR:Stmt:=top 42
theorem fW:aK ["_law_pledge_here","_law_giving_here","_law_found","_law_step","_law_term_here"] XW (aD nR):=gC
theorem yf {k:Nat} (F:Fun K "_law_owes" "_law_owes" nR f fd) (B:Bt mg)
  (VW:Df P w K mg base "_law_holds" k XY (eQ K 4)):dF P w K mg base CX0 (k+1) f fd XW (vI K):=by
 refine okA F fW fun H Q E hr h=>?_
 obtain⟨a,g,n,p,ns,rfl,⟨ok,vs,ha,rp⟩,hg,hn,q⟩:=h
 refine⟨_,(aq (sT 2 fW.nd aj)
 (aq (cW U3 U (fX (pv 0)) (du (K:=K) 2 U U (aQ (pgN 3 fW.nd) (aQ (pgN 4 fW.nd) dw))) (aO (iz (iQ (aP VW hr (v2 4 1))) (aO (sT 2 fW.nd (pv 3))) cQ)))
 (sR (pv 2)))),?_⟩
 have el:=rp.length
 refine⟨_,U,a,U,⟨_,sqT ha⟩,qQ (K:=K) (a:=a) (xs:=vs) (fun i σ H2=>(∃ u v,σ=[oR a,oR g,some (.int (owF ns (p.take i))),u,v])/\aG H H2)
  ⟨⟨_,_,U⟩,aG.refl H⟩ (fun i σ H2 _ h=>sqT (h.2 _ _ ha)) ?_ ?_⟩
 ·rintro i x σ H2 hx ⟨⟨u,v,rfl⟩,sm⟩
  obtain⟨r,k0,y,t,rfl,hr0,rt,hp⟩:=rp.get hx
  have hm:=Ud hp
  have ow:=Bf (g:=ns) hp
  refine⟨r,_,U,sqT (sm _ _ hr0),U,_,_,U,_,_,U,U,_,U,_,U,y,g,n,t,ns,U,rt.mono sm,(ok.2.2.2 _ hm).2.2,fL sm hg,hn,fun H3 s3=>⟨_,U,?_⟩⟩
  cases e:hF ns t with
  | true =>
   rw[iPo e] at ow
   refine gF ⟨_,U,⟨some (.int k0),some y,?_⟩,sm.trans s3⟩
   rw[ow]
   rfl
  | false =>
   rw[iNe (by rw[e];exact Uc)] at ow
   refine fC ⟨⟨some (.int k0),some y,?_⟩,sm.trans s3⟩
   rw[ow]
   rfl
 ·rintro σ H2 ⟨⟨u,v,rfl⟩,sm⟩
  have q':=q H2 sm
  refine⟨_,U,?_⟩
  rw[el,Ul]
  exact q'
abbrev ni:Stmt:=top 43
theorem yt:aK X2 X2 (aD ni):=gC
inductive Ho (K:UT)(vs:Lo)(H:Hp)(Q:VK)(e3:XK):Prop where
 | mk (c g:Addr) (n:Nat) (as:II) (ps:List Pl) (ns:IN) (_:vs=[.ref c,.ref g]) (_:H c=some (.lst (as.map V.ref))) (_:as.length<=100) (_:cJ n H as ps) (_:SqT K H g (ns.map V.int)) (_:n<=ns.length) (_:∀ H',aG H H'->Q (.int (duF ns 0 ps)) H')
theorem zb {k:Nat} (F:Fun K "_law_owed" "_law_owed" ni f fd) (B:Bt mg)
  (WA:Df P w K mg base "_law_owes" k XW (vI K)):dF P w K mg base CX0 (k+1) f fd X2 (Ho K):=by
 refine okA F yt fun H Q E hr h=>?_
 obtain⟨c,g,n,as,ps,ns,rfl,hc,l100,rps,hg,hn,q⟩:=h
 refine⟨_,(sR (aL (r:=Dc K) (jQ U) U B.max_ oF (a1 (aH lX (aX (a1 aj)) (bh (L:=["_law_pledge_here"]) (F:=Zp) (cap:=[1]) U (aV U U (by kernel_rfl)) (cB (pv 0)) (fun _ _ _ _ _=>(pgC 0)) (fun _ _ _ _ _=>bu) (fun _ _ _ _ _=>(aP WA hr (v2 0 1)))))))),?_⟩
 have ell:=rps.length
 refine⟨smN 1,fun p4 h4=>?_⟩
 generalize eH4:upd H p4 _=H4
 obtain⟨g4,e4⟩:=aC eH4 h4
 refine⟨_,U,c,U,⟨_,sqL (g4 _ _ hc)⟩,fun D2 hD2=>bV (K:=K) (a:=c) (xs:=as.map V.ref) (fun j ws σ' H5=>(∃ u,σ'=[u,oR g])/\ws=((ps.take j).map (owF ns)).map V.int/\aG H4 H5/\H5 D2=some (.lst ws))
  ⟨⟨_,U⟩,U,aA hD2 _,aa⟩ (fun j ws σ' H5 _ h=>⟨sqL (h.2.2.1 _ _ (g4 _ _ hc)),h.2.2.2⟩) ?_ ?_⟩
 ·rintro j ws x σ' H5 hx ⟨⟨u,rfl⟩,e5,s5,hD5⟩
  obtain⟨a,ha,rfl⟩:=xR hx
  obtain⟨pl,hpl,rpl⟩:=rps.get ha
  refine gT ?_
  refine⟨_,U,_,U,a,g,n,pl,ns,U,rpl.mono (g4.trans s5),fL (g4.trans s5) hg,hn,fun H6 s6=>⟨s6 _ _ hD5,?_,⟨_,U⟩,?_,aF (s5.trans s6) hD2 _,aa⟩⟩
  ·rw[e5,Tw,Tw,Uj]
   exact aB (by lia)
  ·rw[e5,take_snoc (owF ns) hpl,T9]
   rfl
 ·rintro ws σ' H5 ⟨_,e5,s5,hD5⟩
  rw[Tw,ell,Ul] at e5
  subst e5
  refine⟨p4,D2,_,_,U,U,s5 _ _ e4,hD5,small ?_,fun p6 h6=>?_⟩
  ·rw[Tw,Tw]
   show 1+ps.length<=1000
   lia
  generalize eH6:upd H5 p6 _=H6
  obtain⟨g6,e6⟩:=aC eH6 h6
  refine⟨p6,0::ps.map (owF ns),U,sqL e6,by simp,?_⟩
  exact q H6 (g4.trans (s5.trans g6))
theorem Mp {p:Pl}{x:Int × Tm}(ok:okP p)(h:p[p.length - 1]? = some x):lsF p=x.1:=by
 have hne:=ok.1
 have e:p=p.dropLast++[x]:=by
  rw[← List.getLast?_eq_getElem?,abZ hne] at h
  rw[← U4 h]
  exact (ab6 hne).symm
 have hp:=ok.2.2.1
 rw[e] at hp ⊢
 exact Ja hp
abbrev nA:Stmt:=top 45
theorem kZ:aK ["_law_book_here","_law_floor","_law_found","_law_at"] Yf (aD nA):=gC
theorem zR (F:Fun K "_law_roof" "_law_roof" nA f fd) (B:Bt mg) :
  dF P w K mg base CX0 1 f fd Yf (Bg K):=by
 refine okA F kZ fun H Q E hr h=>?_
 obtain⟨b,f,n,bk,fl,rfl,⟨us,hb,rb,l12⟩,hf,hl,q⟩:=h
 refine⟨_,(aq (sT 2 kZ.nd (aX cY))
 (aq (cW U3 U (bM U B.range_ (a1 (pln K B.len_ (pv 0)))) (pgN 3 kZ.nd) (aO (cu (jF Uz Vb Va bI (pv 2) (a1 (aL (r:=Dc K) (jQ U) U B.max_ oF (a1 (aH lX (aX (a1 (pxT K (pv 1) (pv 3)))) (bh (L:=["_law_pledge_here"]) (F:=[]) (cap:=[]) U (aV U U (by kernel_rfl)) (cB (pxL K (pv 0) (pv 3))) (fun _ _ _ _ _=>(pgC 0)) (fun _ _ _ _ _=>bu) (fun _ _ _ _ _=>(pxT K (pxT K (pv 0) (yO pP aj)) aj)))))))))))
 (sR (bG (r:=fH K) bw U B.tuple_ bW (v1 2))))),?_⟩
 have el:=rb.length
 refine⟨small (Uw _),fun r hr0=>?_⟩
 generalize eH1:upd H r _=H1
 obtain⟨g1,e1⟩:=aC eH1 hr0
 refine⟨_,U,b,_,U,.inl (sqL (g1 _ _ hb)),_,U,by lia,by lia,fc (lo:=0) (n:=us.length) (fun i σ H2=>(∃ u,σ=[oR b,oR f,oR r,u])/\aG H H2/\H2 r=some (.lst ((Yb rfS (fl.take i) (bk.take i)).map V.int)))
  ⟨⟨_,U⟩,g1,e1⟩ ?_ ?_⟩
 ·rintro i σ H2 hi ⟨⟨u,rfl⟩,sm,hr2⟩
  have jn:i < fl.length:=by lia
  have at1:atI (fl.map V.int) (0+(i:Int))=some (.int fl[i]):=by rw[Wt];exact jJ jn
  have hy:us[i]? = some us[i]:=TJ hi
  obtain⟨c,as,ps,ec,hps,hc,l100,rps⟩:=rb.get hy
  have ell:=rps.length
  have at2:atI us (0+(i:Int))=some (.ref c):=by rw[Wt,← ec];exact gZ hy
  refine⟨_,U,.inl ⟨U,_,sqL hr2⟩,_,U,_,U,f,_,_,_,U,U,fL sm hf,at1,smN 1,fun p4 h4=>?_⟩
  generalize eH4:upd H2 p4 _=H4
  obtain⟨g4,e4⟩:=aC eH4 h4
  have s4:aG H H4:=sm.trans g4
  refine⟨_,U,_,U,b,_,_,_,U,U,sqL (s4 _ _ hb),at2,c,U,⟨_,sqL (s4 _ _ hc)⟩,fun D2 hD2=>bV (K:=K) (a:=c) (xs:=as.map V.ref) (fun j ws σ' H5=>(∃ u,σ'=[u])/\ws=((ps.take j).map lsF).map V.int/\aG H4 H5/\H5 D2=some (.lst ws))
   ⟨⟨_,U⟩,U,aA hD2 _,aa⟩ (fun j ws σ' H5 _ h=>⟨sqL (h.2.2.1 _ _ (s4 _ _ hc)),h.2.2.2⟩) ?_ ?_⟩
  ·rintro j ws x σ' H5 hx ⟨⟨u,rfl⟩,e5,s5,hD5⟩
   obtain⟨a,ha,rfl⟩:=xR hx
   obtain⟨pl,hpl,ok,vs,hav,rv⟩:=rps.get ha
   have lv:=rv.length
   have lne:0 < pl.length:=List.length_pos_iff.mpr ok.1
   have hlast:vs[vs.length - 1]? = some (vs[vs.length - 1]'(by lia)):=TJ (by lia)
   obtain⟨r0,k0,y,t,er,hr0',rt,hp⟩:=rv.get hlast
   rw[er] at hlast
   rw[lv] at hp
   have s45:=s4.trans s5
   refine gT ?_
   refine⟨_,U,_,U,a,_,_,_,U,U,sqT (s45 _ _ hav),Bm hlast,r0,_,_,_,U,U,sqT (s45 _ _ hr0'),gt0,hD5,?_,⟨_,U⟩,?_,aF s5 hD2 _,aa⟩
   ·rw[e5,Tw,Tw,Uj]
    exact aB (by lia)
   ·rw[e5,take_snoc lsF hpl,T9,Mp ok hp]
    rfl
  ·rintro ws σ' H5 ⟨_,e5,s5,hD5⟩
   rw[Tw,ell,Ul] at e5
   subst e5
   refine⟨p4,D2,_,_,U,U,s5 _ _ e4,hD5,small ?_,fun p6 h6=>?_⟩
   ·rw[Tw,Tw]
    show 1+ps.length<=1000
    lia
   generalize eH6:upd H5 p6 _=H6
   obtain⟨g6,e6⟩:=aC eH6 h6
   have sall:aG H2 H6:=g4.trans (s5.trans g6)
   refine⟨p6,fl[i]::ps.map lsF,U,sqL e6,by simp,r,_,_,U,U,sall _ _ hr2,?_,⟨_,U⟩,aF (sm.trans sall) hr0 _,?_⟩
   ·rw[Tw,YD,Uj]
    exact aB (by lia)
   ·rw[aa,uw rfS (TJ jn) hps,T9]
    rfl
 ·rintro σ H2 ⟨⟨u,rfl⟩,sm,hr2⟩
  refine⟨_,U,r,_,U,.inl ⟨sqL hr2,fun l hl'=>?_⟩⟩
  refine q l _ (sm.trans (aA hl' _)) ?_
  rw[aa,el,Ul,← hl,Ul]
  rfl
def itF (f:IN->IN)(x:IN):Nat->IN
 | 0=>x
 | k+1=>f (itF f x k)
def Stops (f:IN->IN)(x:IN)(m:Nat):Prop:=f (itF f x m)=itF f x m/\∀ j < m,f (itF f x j)≠itF f x j
def jr (f:IN->IN)(x:IN)(m:Nat):IA:=(Ui (m+1)).map (itF f x)
theorem oO (f:IN->IN)(x:IN)(m:Nat):(jr f x m).length=m+1:=by
 unfold jr
 rw[Tw,UJ]
theorem Dj (f:IN->IN)(x:IN)(m:Nat):jr f x (m+1)=jr f x m++[itF f x (m+1)]:=by
 unfold jr
 rw[Xm,T9]
 rfl
theorem Cm (f:IN->IN)(x:IN)(m:Nat):(jr f x m)[(jr f x m).length - 1]? = some (itF f x m):=by
 rw[oO,Nat.add_sub_cancel]
 unfold jr
 rw[Uo,Wd (Wb m)]
 rfl
theorem j6 {f:IN->IN}{x:IN}(φ:IN->Int)(N:Nat)(b0:∀ k,0<=φ (itF f x k))(bN:∀ k,φ (itF f x k)<=(N:Int))(up:∀ k,f (itF f x k)≠itF f x k->φ (itF f x k) < φ (itF f x (k+1))):∃ m,m<=N/\Stops f x m:=by
 have key:∀ k,(∃ m,m < k/\Stops f x m)∨((∀ j < k,f (itF f x j)≠itF f x j)/\(k:Int)<=φ (itF f x k)):=by
  intro k
  induction k with
  | zero=>exact .inr ⟨fun j h=>absurd h (aaH _),by simpa using b0 0⟩
  | succ k ih =>
   rcases ih with⟨m,h1,h2⟩ | ⟨h1,h2⟩
   ·exact .inl ⟨m,by lia,h2⟩
   ·by_cases e:f (itF f x k)=itF f x k
    ·exact .inl ⟨k,Wb k,e,h1⟩
    ·refine .inr ⟨fun j hj=>?_,by have:=up k e;lia⟩
     rcases V0 j k with z | z
     ·exact h1 j z
     ·have:j=k:=by lia
      subst this
      exact e
 rcases key (N+1) with⟨m,h1,h2⟩ | ⟨_,h2⟩
 ·exact⟨m,by lia,h2⟩
 ·have:=bN (N+1)
  lia
theorem jP {g g':IN}(hl:g.length=g'.length)(h:∀ i,i < g.length->g.getD i 0<=g'.getD i 0):LeG g g':=fun i=>by
 by_cases hi:i < g.length
 ·exact h i hi
 ·rw[TQ,Vz (by lia),TQ,Vz (by lia)]
  exact Vj _
theorem Lx {g:IN}{p:Pl}{b:Int}(h0:0<=b)(h:∀ x∈p,x.1<=b):owF g p<=b:=by
 have key:∀ (p:Pl) (f:Int),f<=b->(∀ x∈p,x.1<=b)->p.foldl (owS g) f<=b:=by
  intro p
  induction p with
  | nil=>intro f hf _;exact hf
  | cons x r ih =>
   intro f hf hx
   rw[Vw]
   refine ih _ ?_ fun y hy=>hx y (TX _ hy)
   unfold owS
   split
   ·exact hx x TY
   ·exact hf
 exact key p 0 h0 h
theorem J5 {g g':IN}(l:LeG g g'){p:Pl}(ok:okP p):owF g p<=owF g' p:=by
 have key:∀ (p:Pl) (f f':Int),f<=f'->(∀ x∈p,f' < x.1)->(p.map (·.1)).Pairwise (· < ·)->p.foldl (owS g) f<=p.foldl (owS g') f':=by
  intro p
  induction p with
  | nil=>intro f f' hf _ _;exact hf
  | cons x r ih =>
   intro f f' hf hx hp
   rw[U6,Wu] at hp
   rw[Vw,Vw]
   have hr:∀ y∈r,x.1 < y.1:=fun y hy=>hp.1 y.1 (List.mem_map.mpr ⟨y,hy,U⟩)
   have hx0:=hx x TY
   have hfr:∀ y∈r,f' < y.1:=fun y hy=>by have:=hr y hy;lia
   unfold owS
   by_cases c:hF g x.2=true
   ·rw[iPo c,iPo (zJ l _ c)]
    exact ih _ _ (Vj _) hr hp.2
   ·rw[iNe c]
    by_cases c':hF g' x.2=true
    ·rw[iPo c']
     exact ih _ _ (by lia) hr hp.2
    ·rw[iNe c']
     exact ih _ _ hf hfr hp.2
 exact key p 0 0 (Vj _) (fun x hx=>by have:=(ok.2.2.2 x hx).1;lia) ok.2.2.1
theorem gP {b:Int}:∀ (l:IN) (a:Int),a<=b->(∀ x∈l,x<=b)->l.foldl max a<=b
 | [],a,h,_=>h
 | y::l,a,h,hl=>by
  rw[Vw]
  exact gP l _ (by have:=hl y TY;lia) fun x hx=>hl x (TX _ hx)
theorem iu {α:Type}(u v:α->Int):∀ (l:List α) (a b:Int),a<=b->(∀ x∈l,u x<=v x)->(l.map u).foldl max a<=(l.map v).foldl max b
 | [],a,b,h,_=>h
 | y::l,a,b,h,hl=>by
  rw[U6,U6,Vw,Vw]
  exact iu u v l _ _ (by have:=hl y TY;lia) fun x hx=>hl x (TX _ hx)
def okB (bk:List (List Pl)):Prop:=∀ ps∈bk,∀ p∈ps,okP p
theorem Ab {g g':IN}(l:LeG g g'){ps:List Pl}(ok:∀ p∈ps,okP p){f f':Int}(h:f<=f'):duF g f ps<=duF g' f' ps:=iu _ _ ps f f' h fun p hp=>J5 l (ok p hp)
theorem Lk (g:IN)(f:Int)(ps:List Pl):f<=duF g f ps:=(fj _ f).1
theorem Nr (g:IN){f:Int}(h:f<=9){ps:List Pl}(ok:∀ p∈ps,okP p):duF g f ps<=9:=by
 refine gP _ f h fun x hx=>?_
 obtain⟨p,hp,rfl⟩:=List.mem_map.mp hx
 exact Lx (by decide) fun y hy=>((ok p hp).2.2.2 y hy).2.1
theorem K1 {p:Pl}{x:Int × Tm}(h:x∈p):x.1<=lsF p:=by
 unfold lsF
 cases p with
 | nil=>cases h
 | cons y r =>
  show x.1<=(r.map (·.1)).foldl max y.1
  obtain⟨h1,h2⟩:=fj (r.map (·.1)) y.1
  rcases List.mem_cons.mp h with rfl | h
  ·exact h1
  ·exact h2 x.1 (List.mem_map.mpr ⟨x,h,U⟩)
theorem Nx {g:IN}{p:Pl}(ok:okP p):owF g p<=lsF p:=by
 have hne:=ok.1
 refine Lx ?_ fun x hx=>K1 hx
 cases p with
 | nil=>exact absurd U hne
 | cons y r =>
  have:=K1 (p:=y::r) (x:=y) TY
  have:=(ok.2.2.2 y TY).1
  lia
theorem Np (g:IN)(f:Int){ps:List Pl}(ok:∀ p∈ps,okP p):duF g f ps<=rfS f ps:=iu _ _ ps f f (Vj _) fun p hp=>Nx (ok p hp)
theorem Ob {p:Pl}(ok:okP p):lsF p<=9:=by
 cases p with
 | nil=>exact absurd U ok.1
 | cons y r =>
  show (r.map (·.1)).foldl max y.1<=9
  refine gP _ _ (ok.2.2.2 y TY).2.1 fun x hx=>?_
  obtain⟨z,hz,rfl⟩:=List.mem_map.mp hx
  exact (ok.2.2.2 z (TX _ hz)).2.1
theorem Ny {f:Int}(h:f<=9){ps:List Pl}(ok:∀ p∈ps,okP p):rfS f ps<=9:=by
 refine gP _ f h fun x hx=>?_
 obtain⟨p,hp,rfl⟩:=List.mem_map.mp hx
 exact Ob (ok p hp)
theorem QK (f:Int)(ps:List Pl):f<=rfS f ps:=(fj _ f).1
theorem fP {α:Type}(f:Int->α->Int){xs:IN}{ys:List α}{i:Nat}(h1:i < xs.length)(h2:i < ys.length):(Yb f xs ys).getD i 0=f (xs.getD i 0) ys[i]:=by
 rw[TQ,List.getElem?_zipWith,TJ h1,TJ h2,TQ,TJ h1]
 rfl
theorem fu:∀ {g g':IN},g.length=g'.length->(∀ i,i < g.length->g.getD i 0<=g'.getD i 0)->g.sum<=g'.sum/\(g.sum=g'.sum->g=g')
 | [],[],_,_=>⟨Vj _,fun _=>U⟩
 | a::g,b::g',hl,h=>by
  have h0:a<=b:=h 0 (Nat.succ_pos _)
  obtain⟨h1,h2⟩:=fu (g:=g) (g':=g') (by simpa using hl) fun i hi=>by
   have:=h (i+1) (by rw[Um];lia)
   simpa using this
  rw[Yk,Yk]
  refine⟨by lia,fun e=>?_⟩
  have e1:a=b:=by lia
  have e2:g.sum=g'.sum:=by lia
  rw[e1,h2 e2]
theorem sum_bound {g:IN}(h:∀ x∈g,0<=x/\x<=9):0<=g.sum/\g.sum<=9 * (g.length:Int):=by
 induction g with
 | nil=>exact⟨Vj _,by simp⟩
 | cons a g ih =>
  have:=h a TY
  have:=ih fun x hx=>h x (TX _ hx)
  rw[Yk,Um]
  lia
def okG (n:Nat)(g:IN):Prop:=g.length=n/\∀ x∈g,0<=x/\x<=9
theorem bQ {n:Nat}{g:IN}(h:okG n g){i:Nat}(hi:i < n):0<=g.getD i 0/\g.getD i 0<=9:=by
 have hi':i < g.length:=by rw[h.1];exact hi
 rw[TQ,TJ hi']
 exact h.2 _ (VD hi')
theorem qG {n:Nat}{g:IN}(hl:g.length=n)(h:∀ i,i < n->0<=g.getD i 0/\g.getD i 0<=9):okG n g:=by
 refine⟨hl,fun x hx=>?_⟩
 obtain⟨i,hi,e⟩:=XH hx
 have:=h i (by lia)
 rw[TQ,TJ hi,e] at this
 exact this
section
variable {n:Nat}{fl:IN}{bk:List (List Pl)}
theorem cj (hb:bk.length=n)(ok:okB bk)(hf:okG n fl)(g:IN):okG n (cU g fl bk):=by
 refine qG (by rw[yZ (by rw[hf.1,hb])];exact hb) fun i hi=>?_
 have h1:i < fl.length:=by rw[hf.1];exact hi
 have h2:i < bk.length:=by lia
 unfold cU
 rw[fP (duF g) h1 h2]
 have:=bQ hf hi
 have:=Lk g (fl.getD i 0) bk[i]
 have:=Nr g (f:=fl.getD i 0) (by lia) (ok bk[i] (VD h2))
 lia
theorem eV (hb:bk.length=n)(ok:okB bk)(hf:okG n fl){g g':IN}(l:LeG g g'):LeG (cU g fl bk) (cU g' fl bk):=by
 have l1:=(cj hb ok hf g).1
 have l2:=(cj hb ok hf g').1
 refine jP (by lia) fun i hi=>?_
 have h1:i < fl.length:=by rw[hf.1];lia
 have h2:i < bk.length:=by lia
 unfold cU
 rw[fP (duF g) h1 h2,fP (duF g') h1 h2]
 exact Ab l (ok bk[i] (VD h2)) (Vj _)
theorem f9 (hb:bk.length=n)(ok:okB bk)(hf:okG n fl)(g:IN):LeG fl (cU g fl bk):=by
 have l1:=(cj hb ok hf g).1
 refine jP (by rw[hf.1];lia) fun i hi=>?_
 have h2:i < bk.length:=by rw[hf.1] at hi;lia
 unfold cU
 rw[fP (duF g) hi h2]
 exact Lk _ _ _
theorem jh (hb:bk.length=n)(ok:okB bk)(hf:okG n fl):okG n (rfF fl bk):=by
 have hl:(rfF fl bk).length=n:=by
  unfold rfF
  rw[YD,hf.1,hb,Nat.min_self]
 refine qG hl fun i hi=>?_
 have h1:i < fl.length:=by rw[hf.1];exact hi
 have h2:i < bk.length:=by lia
 unfold rfF
 rw[fP rfS h1 h2]
 have:=bQ hf hi
 have:=QK (fl.getD i 0) bk[i]
 have:=Ny (f:=fl.getD i 0) (by lia) (ok bk[i] (VD h2))
 lia
theorem ph (hb:bk.length=n)(ok:okB bk)(hf:okG n fl)(g:IN):LeG (cU g fl bk) (rfF fl bk):=by
 have l1:=(cj hb ok hf g).1
 have l2:=(jh hb ok hf).1
 refine jP (by lia) fun i hi=>?_
 have h1:i < fl.length:=by rw[hf.1];lia
 have h2:i < bk.length:=by lia
 unfold cU rfF
 rw[fP (duF g) h1 h2,fP rfS h1 h2]
 exact Np g _ (ok bk[i] (VD h2))
theorem gj (hb:bk.length=n)(ok:okB bk)(hf:okG n fl){x:IN}(hx:okG n x):∀ k,okG n (itF (fun g=>cU g fl bk) x k)
 | 0=>hx
 | k+1=>cj hb ok hf _
theorem QD (hb:bk.length=n)(ok:okB bk)(hf:okG n fl){x:IN}(h:LeG x (cU x fl bk)):∀ k,LeG (itF (fun g=>cU g fl bk) x k) (itF (fun g=>cU g fl bk) x (k+1))
 | 0=>h
 | k+1=>eV hb ok hf (QD hb ok hf h k)
theorem FJ (hb:bk.length=n)(ok:okB bk)(hf:okG n fl){x:IN}(h:LeG (cU x fl bk) x):∀ k,LeG (itF (fun g=>cU g fl bk) x (k+1)) (itF (fun g=>cU g fl bk) x k)
 | 0=>h
 | k+1=>eV hb ok hf (FJ hb ok hf h k)
theorem Jl (hb:bk.length=n)(ok:okB bk)(hf:okG n fl){x:IN}(hx:okG n x)(h:LeG x (cU x fl bk)):∃ m,m<=9 * n/\Stops (fun g=>cU g fl bk) x m:=by
 refine j6 Xb (9 * n) (fun k=>(sum_bound (gj hb ok hf hx k).2).1) (fun k=>?_) (fun k ne=>?_)
 ·have:=(sum_bound (gj hb ok hf hx k).2).2
  rw[(gj hb ok hf hx k).1] at this
  lia
 ·obtain⟨h1,h2⟩:=fu ((gj hb ok hf hx k).1.trans (gj hb ok hf hx (k+1)).1.symm) fun i _=>QD hb ok hf h k i
  have:Xb (itF (fun g=>cU g fl bk) x k)≠Xb (itF (fun g=>cU g fl bk) x (k+1)):=fun e=>ne (h2 e).symm
  lia
theorem BW (hb:bk.length=n)(ok:okB bk)(hf:okG n fl){x:IN}(hx:okG n x)(h:LeG (cU x fl bk) x):∃ m,m<=9 * n/\Stops (fun g=>cU g fl bk) x m:=by
 refine j6 (fun g=>9 * (n:Int) - g.sum) (9 * n) (fun k=>?_) (fun k=>?_) (fun k ne=>?_)
 ·have:=(sum_bound (gj hb ok hf hx k).2).2
  rw[(gj hb ok hf hx k).1] at this
  show 0<=9 * (n:Int) - Xb _
  lia
 ·have:=(sum_bound (gj hb ok hf hx k).2).1
  show 9 * (n:Int) - Xb _<=_
  lia
 ·obtain⟨h1,h2⟩:=fu ((gj hb ok hf hx (k+1)).1.trans (gj hb ok hf hx k).1.symm) fun i _=>FJ hb ok hf h k i
  have:Xb (itF (fun g=>cU g fl bk) x (k+1))≠Xb (itF (fun g=>cU g fl bk) x k):=fun e=>ne (h2 e)
  show 9 * (n:Int) - Xb _ < 9 * (n:Int) - Xb _
  lia
end
inductive gG (H:Hp):Lo->IA->Prop where
 | nil:gG H [] []
 | cons {a:Addr} {g:IN} {us:Lo} {gs:IA}:H a=some (.tup (g.map V.int))->g.length<=1000->gG H us gs->gG H (.ref a::us) (g::gs)
theorem gG.aY {H H':Hp}(e:∀ a xs,H a=some (HO.tup xs)->H' a=some (HO.tup xs)):∀ {us:Lo} {gs:IA},gG H us gs->gG H' us gs
 | _,_,.nil=>.nil
 | _,_,.cons h l r=>.cons (e _ _ h) l (gG.aY e r)
theorem gG.mono {H H':Hp}(e:aG H H'){us:Lo}{gs:IA}(h:gG H us gs):gG H' us gs:=h.aY fun a xs q=>e a _ q
theorem gG.length {H:Hp}:∀ {us:Lo} {gs:IA},gG H us gs->us.length=gs.length
 | _,_,.nil=>rfl
 | _,_,.cons _ _ r=>by rw[Um,Um,gG.length r]
theorem gG.get {H:Hp}:∀ {us:Lo} {gs:IA} {i:Nat} {g:IN},gG H us gs->gs[i]? = some g->∃ a,us[i]? = some (.ref a)/\H a=some (.tup (g.map V.int))
 | _,_,_,_,.nil,h=>by simp at h
 | _,_,0,_,.cons h _ _,e=>by
  cases (show some _=some _ from e)
  exact⟨_,U,h⟩
 | _,_,i+1,_,.cons _ _ r,e=>by
  obtain⟨a,h1,h2⟩:=gG.get (i:=i) r (by simpa using e)
  exact⟨a,by simpa using h1,h2⟩
theorem gG.snoc {H:Hp}{a:Addr}{g:IN}(h:H a=some (.tup (g.map V.int)))(hl:g.length<=1000):∀ {us:Lo} {gs:IA},gG H us gs->gG H (us++[.ref a]) (gs++[g])
 | _,_,.nil=>.cons h hl .nil
 | _,_,.cons x y r=>.cons x y (gG.snoc h hl r)
def gD (g:IN):Dm:=.tup (g.map Dm.int)
theorem cH.okB {n:Nat}{H:Hp}:∀ {us:Lo} {bk:List (List Pl)},cH n H us bk->okB bk
 | _,_,.nil=>fun ps h=>by cases h
 | _,_,.cons _ _ p r=>fun ps h q hq=>by
  rcases List.mem_cons.mp h with rfl | h
  ·obtain⟨i,hi,e⟩:=XH hq
   have hlen:=p.length
   obtain⟨q',e1,e2⟩:=p.get (i:=i) (TJ (by lia))
   rw[TJ hi,e] at e1
   cases e1
   exact e2.1
  ·exact cH.okB r ps h q hq
theorem rO.okB {n:Nat}{H:Hp}{b:Addr}{bk:List (List Pl)}(h:rO n H b bk):okB bk:=by
 obtain⟨us,_,h2,_⟩:=h
 exact h2.okB
abbrev Fd (fl:IN)(bk:List (List Pl)):IN->IN:=fun g=>cU g fl bk
abbrev qx:Stmt:=top 12
theorem jW:aK ["book","floor","giving","row","due"] YO (aD qx):=gC
inductive qI (K:UT)(vs:Lo)(H:Hp)(Q:VK)(e3:XK):Prop where
 | mk (b f g:Addr) (n:Nat) (bk:List (List Pl)) (fl x:IN) (m:Nat) (_:vs=[.ref b,.ref f,.ref g]) (_:rO n H b bk) (_:bk.length=n) (_:H f=some (.tup (fl.map V.int))) (_:okG n fl) (_:H g=some (.tup (x.map V.int))) (_:okG n x) (_:m<=9 * n) (_:Stops (Fd fl bk) x m) (_:∀ (r:Addr) (us:Lo) (H':Hp),aG H H'->H r=none->H' r=some (.lst us)->gG H' us (jr (Fd fl bk) x m)->Q (.ref r) H')
theorem tQ {H:Hp}{us:Lo}{F:IN->IN}{x:IN}{j:Nat}(h:gG H us (jr F x j)):∃ a,atI us (-1)=some (.ref a)/\H a=some (.tup ((itF F x j).map V.int)):=by
 have hl:=h.length
 obtain⟨a,h1,h2⟩:=h.get (Cm F x j)
 rw[← hl] at h1
 exact⟨a,Bm h1,h2⟩
def Ef (H:Hp)(r:Addr):Nat:=match H r with
 | some (.lst us)=>us.length
 | _=>0
theorem zZ {H:Hp}{r:Addr}{us:Lo}(h:H r=some (.lst us)):Ef H r=us.length:=by unfold Ef;rw[h]
theorem Cw {k:Nat} (F:Fun K "settled" "settled" qx f fd) (B:Bt mg)
  (XA:Df P w K mg base "what_is_due" k YO (QS K)):dF P w K mg base CX0 (k+1) f fd YO (qI K):=by
 refine okA F jW fun H Q E hr h=>?_
 obtain⟨b,f,g,n,bk,fl,x,m,rfl,hb,lb,hf,of,hg,ox,hm,st,q⟩:=h
 refine⟨_,(aq (sT 3 jW.nd (aX (v1 2)))
 (aq (sT 4 jW.nd (aP XA hr (au (pv 0) (v2 1 2))))
 (aq (o8 U3 (aU (r:=JH K) (ym hr.gU) (pv 4) (pxL K (pv 3) (yO pP aj))) (aq (cu (jF Uz Vb Va bI (pv 3) (v1 4)))
 (aO (sT 4 jW.nd (aP XA hr (au (pv 0) (v2 1 4)))))))
 (sR (pv 3))))),?_⟩
 have okb:=hb.okB
 have b12:n<=12:=by obtain⟨_,_,_,h⟩:=hb;lia
 have og:∀ j,okG n (itF (Fd fl bk) x j):=gj lb okb of ox
 have f0:∀ y∈fl,0<=y:=fun y hy=>(of.2 y hy).1
 have hlb:fl.length=bk.length:=by rw[of.1,lb]
 refine⟨_,U,smN 1,fun r hr0=>?_⟩
 generalize eH1:upd H r _=H1
 obtain⟨g1,e1⟩:=aC eH1 hr0
 refine⟨_,U,_,U,_,U,b,f,g,n,bk,fl,x,U,hb.mono g1,sqT (g1 _ _ hf),sqT (g1 _ _ hg),hlb,by rw[ox.1];lia,f0,fun r1 H2 s2 er1=>?_⟩
 refine gN ?_
 refine IW (fun σ H3=>∃ (j:Nat) (us:Lo) (d:Addr),j<=m/\σ=[oR b,oR f,oR g,oR r,oR d]/\aG H H3/\H3 r=some (.lst us)/\gG H3 us (jr (Fd fl bk) x j)/\H3 d=some (.tup ((itF (Fd fl bk) x (j+1)).map V.int)))
  (fun _ H3=>m+2 - Ef H3 r) ⟨0,[.ref g],r1,Uw _,U,g1.trans s2,s2 _ _ e1,.cons (s2 _ _ (g1 _ _ hg)) (by rw[(og 0).1];lia) .nil,er1⟩ ?_ ?_
 ·rintro σ H3 ⟨j,us,d,hj,rfl,s3,er,gr,ed⟩
  obtain⟨a,ha,ea⟩:=tQ gr
  have lu:=gr.length
  rw[oO] at lu
  refine⟨_,U,_,U,_,U,r,_,_,_,U,U,sqL er,ha,d,a,_,_,U,U,sqT ed,sqT ea,_,U,?_⟩
  by_cases e:itF (Fd fl bk) x (j+1)=itF (Fd fl bk) x j
  ·rw[dcT e]
   refine fC ?_
   have ej:j=m:=by
    rcases V0 j m with z | z
    ·exact absurd e (st.2 j z)
    ·lia
   subst ej
   exact⟨_,U,q r us H3 s3 hr0 er gr⟩
  ·rw[dcF e]
   refine gF ?_
   have hjm:j < m:=by
    rcases V0 j m with z | z
    ·exact z
    ·have:j=m:=by lia
     subst this
     exact absurd st.1 e
   refine⟨_,U,.inl ⟨U,_,sqL er⟩,_,U,r,_,_,U,U,er,aB (by lia),?_⟩
   have tk:=bO (zs':=us++[.ref d]) er
   have s4:aG H (upd H3 r (.lst (us++[.ref d]))):=aF s3 hr0 _
   refine⟨_,U,_,U,_,U,b,f,d,n,bk,fl,_,U,hb.mono s4,sqT (s4 _ _ hf),sqT (tk _ _ ed),hlb,by rw[(og (j+1)).1];lia,f0,fun r5 H5 s5 er5=>?_⟩
   have er':H5 r=some (.lst (us++[.ref d])):=s5 _ _ aa
   refine⟨⟨j+1,us++[.ref d],r5,hjm,U,s4.trans s5,er',?_,er5⟩,?_⟩
   ·rw[Dj]
    exact ((gr.aY tk).snoc (tk _ _ ed) (by rw[(og (j+1)).1];lia)).mono s5
   ·show m+2 - Ef H5 r < m+2 - Ef H3 r
    rw[zZ er',zZ er,Uh]
    show m+2 - (us.length+1) < m+2 - us.length
    lia
 ·rintro σ H3 Q1 Q2 hQ ⟨v1,h1,v2,h2,i0,h3,p,xs,i,z,h4,h5,h6,h7,a1,a2,ns,ms,h8,h9,h10,h11,c,h12,qq⟩
  exact⟨v1,h1,v2,h2,i0,h3,p,xs,i,z,h4,h5,h6,h7,a1,a2,ns,ms,h8,h9,h10,h11,c,h12,hQ _ _ qq⟩
def nO (st:IN->List (List Pl)->IN):Sp:=fun vs H Q _=>∃ (b f:Addr) (n:Nat) (bk:List (List Pl)) (fl:IN),vs=[.ref b,.ref f]/\rO n H b bk/\bk.length=n/\H f=some (.tup (fl.map V.int))/\okG n fl ∧
 ∀ (m:Nat) (r:Addr) (us:Lo) (H':Hp),m<=9 * n->Stops (Fd fl bk) (st fl bk) m->aG H H'->H r=none->H' r=some (.lst us)->gG H' us (jr (Fd fl bk) (st fl bk) m)->Q (.ref r) H'
def mX (st:IN->List (List Pl)->IN):Sp:=fun vs H Q _=>∃ (b f:Addr) (n:Nat) (bk:List (List Pl)) (fl:IN),vs=[.ref b,.ref f]/\rO n H b bk/\bk.length=n/\H f=some (.tup (fl.map V.int))/\okG n fl ∧
 ∀ (m:Nat) (a:Addr) (H':Hp),m<=9 * n->Stops (Fd fl bk) (st fl bk) m->aG H H'->H' a=some (.tup ((itF (Fd fl bk) (st fl bk) m).map V.int))->Q (.ref a) H'
abbrev Gy:IN->List (List Pl)->IN:=fun fl _=>fl
theorem tu {n:Nat}{fl:IN}{bk:List (List Pl)}(hb:bk.length=n)(ok:okB bk)(hf:okG n fl):∃ m,m<=9 * n/\Stops (Fd fl bk) fl m:=Jl hb ok hf hf (f9 hb ok hf fl)
theorem Cy {n:Nat}{fl:IN}{bk:List (List Pl)}(hb:bk.length=n)(ok:okB bk)(hf:okG n fl):∃ m,m<=9 * n/\Stops (Fd fl bk) (rfF fl bk) m:=BW hb ok hf (jh hb ok hf) (ph hb ok hf _)
abbrev Gx:Stmt:=top 13
abbrev yh:Stmt:=top 15
theorem Mr:aK ZI ZI (aD Gx):=gC
theorem Jf:aK ZI ZI (aD yh):=gC
theorem Nk {k:Nat} (F:Fun K "rise" "rise" Gx f fd) (B:Bt mg)
  (Xt:Df P w K mg base "settled" k YO (qI K)):dF P w K mg base CX0 (k+1) f fd ZI (nO Gy):=by
 refine okA F Mr fun H Q E hr h=>?_
 obtain⟨b,f,n,bk,fl,rfl,hb,lb,hf,of,q⟩:=h
 refine⟨_,(sR (aP Xt hr (au (pv 0) (v2 1 1)))),?_⟩
 obtain⟨m,hm,st⟩:=tu lb hb.okB of
 exact⟨_,U,_,U,_,U,b,f,f,n,bk,fl,fl,m,U,hb,lb,hf,of,hf,of,hm,st,fun r us H' s1 fr er gr=>q m r us H' hm st s1 fr er gr⟩
theorem Jo {k:Nat} (F:Fun K "least" "least" yh f fd) (B:Bt mg)
  (WZ:Df P w K mg base "rise" k ZI (nO Gy)):dF P w K mg base CX0 (k+1) f fd ZI (mX Gy):=by
 refine okA F Jf fun H Q E hr h=>?_
 obtain⟨b,f,n,bk,fl,rfl,hb,lb,hf,of,q⟩:=h
 refine⟨_,(sR (pxL K (aP WZ hr (v2 0 1)) (yO pP aj))),_,U,_,U,b,f,n,bk,fl,U,hb,lb,hf,of,fun m r us H' hm st s1 fr er gr=>?_⟩
 obtain⟨a,ha,ea⟩:=tQ gr
 exact⟨_,U,r,_,_,_,U,U,sqL er,ha,q m a H' hm st s1 ea⟩
abbrev Et:Stmt:=top 14
abbrev m6:Stmt:=top 16
theorem Nt:aK ZI ZI (aD Et):=gC
theorem zc:aK ZI ZI (aD m6):=gC
theorem Oe {k:Nat} (hk:2<=k) (F:Fun K "fall" "fall" Et f fd) (B:Bt mg)
  (Xt:Df P w K mg base "settled" k YO (qI K)) (Xs:Df P w K mg base "roof" 2 ZI (Bg K)):dF P w K mg base CX0 (k+1) f fd ZI (nO rfF):=by
 refine okA F Nt fun H Q E hr h=>?_
 obtain⟨b,f,n,bk,fl,rfl,hb,lb,hf,of,q⟩:=h
 refine⟨_,(sR (aP Xt hr (au (pv 0) (au (pv 1) (a1 (aP Xs hr (v2 0 1))))))),?_⟩
 obtain⟨m,hm,st⟩:=Cy lb hb.okB of
 exact⟨_,U,_,U,_,U,_,U,b,f,n,bk,fl,U,hb,sqT hf,by rw[of.1,lb],fun r1 H1 s1 e1=>⟨b,f,r1,n,bk,fl,rfF fl bk,m,U,hb.mono s1,lb,s1 _ _ hf,of,e1,jh lb hb.okB of,hm,st,fun r us H' s2 fr er gr=>q m r us H' hm st (s1.trans s2) (s1.free fr) er gr⟩⟩
theorem yE {k:Nat} (F:Fun K "greatest" "greatest" m6 f fd) (B:Bt mg)
  (UU:Df P w K mg base "fall" k ZI (nO rfF)):dF P w K mg base CX0 (k+1) f fd ZI (mX rfF):=by
 refine okA F zc fun H Q E hr h=>?_
 obtain⟨b,f,n,bk,fl,rfl,hb,lb,hf,of,q⟩:=h
 refine⟨_,(sR (pxL K (aP UU hr (v2 0 1)) (yO pP aj))),_,U,_,U,b,f,n,bk,fl,U,hb,lb,hf,of,fun m r us H' hm st s1 fr er gr=>?_⟩
 obtain⟨a,ha,ea⟩:=tQ gr
 exact⟨_,U,r,_,_,_,U,U,sqL er,ha,q m a H' hm st s1 ea⟩
theorem LeG.trans {a b c:IN}(h:LeG a b)(k:LeG b c):LeG a c:=fun i=>ZR (h i) (k i)
section
variable {n:Nat}{fl:IN}{bk:List (List Pl)}
theorem qY (hb:bk.length=n)(ok:okB bk)(hf:okG n fl){g:IN}(h:LeG (cU g fl bk) g):∀ k,LeG (itF (Fd fl bk) fl k) g
 | 0=>(f9 hb ok hf g).trans h
 | k+1=>(eV hb ok hf (qY hb ok hf h k)).trans h
theorem mU (hb:bk.length=n)(ok:okB bk)(hf:okG n fl){g:IN}(h:LeG g (cU g fl bk)):∀ k,LeG g (itF (Fd fl bk) (rfF fl bk) k)
 | 0=>h.trans (ph hb ok hf g)
 | k+1=>h.trans (eV hb ok hf (mU hb ok hf h k))
end
theorem gG.at {H:Hp}:∀ {us:Lo} {gs:IA} {i:Nat} {v:V},gG H us gs->us[i]? = some v->∃ a g,v = .ref a/\gs[i]? = some g/\H a=some (.tup (g.map V.int))/\g.length<=1000
 | _,_,_,_,.nil,h=>by simp at h
 | _,_,0,_,.cons h l _,e=>by
  cases (show some _=some _ from e)
  exact⟨_,_,U,U,h,l⟩
 | _,_,i+1,_,.cons _ _ r,e=>by
  obtain⟨a,g,h1,h2,h3⟩:=gG.at (i:=i) r (by simpa using e)
  exact⟨a,g,h1,by simpa using h2,h3⟩
theorem OJ {K:UT}{a b:Addr}{xs ys:Lo}{H:Hp}{Q:V->Hp->Prop}(ha:H a=some (.tup xs))(hb:H b=some (.tup ys))(hz:xs.length+ys.length<=1000)(h:∀ p H',aG H H'->H' p=some (.tup (xs++ys))->Q (.ref p) H'):iB K (.ref a) (.ref b) H Q :=
 ⟨a,b,xs,ys,U,U,sqT ha,sqT hb,small hz,fun e=>h b H (aG.refl H) (by rw[e,ZC];exact hb),fun _ e=>h a H (aG.refl H) (by rw[e,Wa];exact ha),fun _ _ p hp=>h p _ (aA hp _) aa⟩
theorem Ss {xs:Lo}{k:Nat}(h:k<=xs.length):xZ xs none (some (k:Int))=xs.take k:=by
 unfold xZ
 rw[HT.Ao,HT.tV,List.drop_zero,Nat.sub_zero,Nat.min_eq_left h]
theorem Ro {xs:Lo}{k:Nat}(h:k<=xs.length):xZ xs (some (k:Int)) none=xs.drop k:=by
 unfold xZ
 rw[HT.Ao,HT.tV,Nat.min_eq_left h,aaA (by rw[V4];lia)]
section
variable {K:UT}{σ:St}{H:Hp}{Q:V->Hp->Prop}{i j:Nat}{a:Addr}{k:Nat}{xs:Lo}
theorem slT (hi:σ[i]? = some (some (.ref a)))(hj:σ[j]? = some (some (.int (k:Int))))(ha:H a=some (.tup xs))(hk:k < xs.length)(h:∀ p H',aG H H'->H' p=some (.tup (xs.take k))->Q (.ref p) H'):tSl (Br K) (lF i) lC (zq (lF j)) σ H Q:=by
 refine⟨_,hi,_,hj,_,U,a,xs,U,sqT ha,?_,fun p hp=>?_⟩
 ·rintro⟨_,z⟩
  have z':HT.sIx xs.length xs.length (some (k:Int))=xs.length:=z
  rw[HT.tV] at z'
  lia
 ·refine h p _ (aA hp _) ?_
  rw[aa,Ss (by lia)]
theorem slD (hi:σ[i]? = some (some (.ref a)))(hj:σ[j]? = some (some (.int (k:Int))))(ha:H a=some (.tup xs))(hk:k < xs.length)(h:∀ p H',aG H H'->H' p=some (.tup (xs.drop (k+1)))->Q (.ref p) H') :
  tSl (Br K) (lF i) (zq (tOp (rI0 fun i j=>.int (i+j)) (lF j) (tC (.int 1)))) lC σ H Q:=by
 refine⟨_,hi,_,hj,_,_,U,U,_,U,a,xs,U,sqT ha,?_,fun p hp=>?_⟩
 ·rintro⟨z,_⟩
  have z':HT.sIx xs.length 0 (some ((k:Int)+1))=0:=z
  rw[show (k:Int)+1=((k+1:Nat):Int) by lia,HT.tV] at z'
  lia
 ·refine h p _ (aA hp _) ?_
  rw[aa,show xZ xs (some ((k:Int)+1)) none=xs.drop (k+1) by rw[show (k:Int)+1=((k+1:Nat):Int) by lia];exact Ro (by lia)]
theorem R7 {l:Nat}{v:V}(hi:σ[i]? = some (some (.ref a)))(hj:σ[j]? = some (some (.int (k:Int))))(hv:σ[l]? = some (some v))(ha:H a=some (.tup xs))(hk:k < xs.length)(hl:xs.length<=40)(h:∀ p H',aG H H'->H' p=some (.tup (xs.set k v))->Q (.ref p) H') :
  tOp (iB K) (tOp (iB K) (tSl (Br K) (lF i) lC (zq (lF j))) (O1 (dI (lF l) uz))) (tSl (Br K) (lF i) (zq (tOp (rI0 fun i j=>.int (i+j)) (lF j) (tC (.int 1)))) lC) σ H Q:=by
 refine slT hi hj ha hk fun p1 H1 s1 e1=>?_
 refine⟨_,hv,smN 1,fun p2 h2=>?_⟩
 generalize eH3:upd H1 p2 _=H3
 obtain⟨g3,e3⟩:=aC eH3 h2
 refine OJ (g3 _ _ e1) e3 (by rw[Uj];show min k xs.length+1<=1000;lia) fun p4 H4 s4 e4=>?_
 have s14:aG H H4:=s1.trans (g3.trans s4)
 refine slD hi hj (s14 _ _ ha) hk fun p5 H5 s5 e5=>?_
 refine OJ (s5 _ _ e4) e5 (by rw[Uh,Uj,V4];show min k xs.length+1+(xs.length - (k+1))<=1000;lia) fun p6 H6 s6 e6=>?_
 refine h p6 H6 (s14.trans (s5.trans s6)) ?_
 rw[e6,Y7,iPo hk,Wk]
 rfl
end
section
variable {n:Nat}{fl:IN}{bk:List (List Pl)}
def stp (fl:IN)(bk:List (List Pl))(g:IN)(i:Nat):IN:=g.set i (duF g (fl.getD i 0) (bk.getD i []))
def swp (fl:IN)(bk:List (List Pl))(od:IP)(g:IN):IN:=od.foldl (stp fl bk) g
theorem Oc {i:Nat}(h:i < bk.length):bk.getD i []=bk[i]:=by rw[TQ,TJ h];rfl
theorem nW (hb:bk.length=n)(hf:okG n fl){g:IN}(hg:okG n g){i:Nat}(hi:i < n)(j:Nat):(stp fl bk g i).getD j 0=if j=i then (cU g fl bk).getD i 0 else g.getD j 0:=by
 unfold stp
 have h1:i < fl.length:=by rw[hf.1];exact hi
 have h2:i < bk.length:=by lia
 by_cases e:j=i
 ·subst e
  rw[iPo U,TQ,Yc (by rw[hg.1];exact hi),Oc h2]
  unfold cU
  rw[fP (duF g) h1 h2]
  rfl
 ·rw[iNe e,TQ,Zu (fun z=>e z.symm),TQ]
theorem KZ (hb:bk.length=n)(ok:okB bk)(hf:okG n fl){g:IN}(hg:okG n g){i:Nat}(hi:i < n):okG n (stp fl bk g i):=by
 refine qG (by unfold stp;rw[Xn];exact hg.1) fun j hj=>?_
 rw[nW hb hf hg hi]
 split
 ·exact bQ (cj hb ok hf g) hi
 ·exact bQ hg hj
theorem Pr (hb:bk.length=n)(ok:okB bk)(hf:okG n fl){g:IN}(hg:okG n g)(k:LeG g (cU g fl bk)){i:Nat}(hi:i < n) :
  LeG g (stp fl bk g i)/\LeG (stp fl bk g i) (cU (stp fl bk g i) fl bk)/\∀ w,LeG g w->LeG (cU w fl bk) w->LeG (stp fl bk g i) w:=by
 have up:LeG g (stp fl bk g i):=fun j=>by
  rw[nW hb hf hg hi]
  split
  ·rename_i e;subst e;exact k j
  ·exact Vj _
 refine⟨up,fun j=>?_,fun w h1 h2 j=>?_⟩
 ·have m:=eV hb ok hf up j
  rw[nW hb hf hg hi]
  split
  ·rename_i e;subst e;exact m
  ·exact ZR (k j) m
 ·rw[nW hb hf hg hi]
  split
  ·rename_i e
   subst e
   exact ZR (eV hb ok hf h1 j) (h2 j)
  ·exact h1 j
theorem JX (hb:bk.length=n)(ok:okB bk)(hf:okG n fl){g:IN}(hg:okG n g)(k:LeG (cU g fl bk) g){i:Nat}(hi:i < n) :
  LeG (stp fl bk g i) g/\LeG (cU (stp fl bk g i) fl bk) (stp fl bk g i)/\∀ w,LeG w g->LeG w (cU w fl bk)->LeG w (stp fl bk g i):=by
 have dn:LeG (stp fl bk g i) g:=fun j=>by
  rw[nW hb hf hg hi]
  split
  ·rename_i e;subst e;exact k j
  ·exact Vj _
 refine⟨dn,fun j=>?_,fun w h1 h2 j=>?_⟩
 ·have m:=eV hb ok hf dn j
  rw[nW hb hf hg hi]
  split
  ·rename_i e;subst e;exact m
  ·exact ZR m (k j)
 ·rw[nW hb hf hg hi]
  split
  ·rename_i e
   subst e
   exact ZR (h2 j) (eV hb ok hf h1 j)
  ·exact h1 j
theorem bU {g g':IN}(hl:g.length=g'.length)(h:LeG g g')(h':LeG g' g):g=g':=by
 have e1:=fu hl fun i _=>h i
 have e2:=fu hl.symm fun i _=>h' i
 exact e1.2 (by lia)
def Goes (fl:IN)(bk:List (List Pl))(up:Bool)(g g':IN):Prop:=if up=true then LeG g g'/\LeG g' (cU g' fl bk)/\∀ w,LeG g w->LeG (cU w fl bk) w->LeG g' w else LeG g' g/\LeG (cU g' fl bk) g'/\∀ w,LeG w g->LeG w (cU w fl bk)->LeG w g'
def Dir (fl:IN)(bk:List (List Pl))(up:Bool)(g:IN):Prop:=if up=true then LeG g (cU g fl bk) else LeG (cU g fl bk) g
theorem jZ {up:Bool}{g g':IN}(h:Goes fl bk up g g'):Dir fl bk up g':=by
 cases up with
 | true=>exact h.2.1
 | false=>exact h.2.1
theorem wF {up:Bool}{g:IN}(h:Dir fl bk up g):Goes fl bk up g g:=by
 cases up with
 | true=>exact⟨fun i=>Vj _,h,fun w h1 _=>h1⟩
 | false=>exact⟨fun i=>Vj _,h,fun w h1 _=>h1⟩
theorem tE {up:Bool}{a b c:IN}(h:Goes fl bk up a b)(k:Goes fl bk up b c):Goes fl bk up a c:=by
 cases up with
 | true=>exact⟨h.1.trans k.1,k.2.1,fun w h1 h2=>k.2.2 w (h.2.2 w h1 h2) h2⟩
 | false=>exact⟨k.1.trans h.1,k.2.1,fun w h1 h2=>k.2.2 w (h.2.2 w h1 h2) h2⟩
theorem Am (hb:bk.length=n)(ok:okB bk)(hf:okG n fl){up:Bool}{g:IN}(hg:okG n g)(k:Dir fl bk up g){i:Nat}(hi:i < n):Goes fl bk up g (stp fl bk g i):=by
 cases up with
 | true=>exact Pr hb ok hf hg k hi
 | false=>exact JX hb ok hf hg k hi
theorem HJ {up:Bool}{a b c:IN}(hl:a.length=b.length)(h:Goes fl bk up a b)(k:Goes fl bk up b c)(e:c=a):b=a:=by
 subst e
 cases up with
 | true=>exact (bU hl h.1 k.1).symm
 | false=>exact bU hl.symm h.1 k.1
theorem mG (hb:bk.length=n)(ok:okB bk)(hf:okG n fl){up:Bool}:∀ (od:IP) {g:IN},(∀ i∈od,i < n)->okG n g->Dir fl bk up g->Goes fl bk up g (swp fl bk od g)/\okG n (swp fl bk od g)
 | [],g,_,hg,k=>⟨wF k,hg⟩
 | i::od,g,ho,hg,k=>by
  have hi:=ho i TY
  have h1:=Am hb ok hf hg k hi
  have h2:=KZ hb ok hf hg hi
  obtain⟨h3,h4⟩:=mG hb ok hf od (fun j hj=>ho j (TX _ hj)) h2 (jZ h1)
  exact⟨tE h1 h3,h4⟩
theorem HS (hb:bk.length=n)(ok:okB bk)(hf:okG n fl){up:Bool}:∀ (od:IP) {g:IN},(∀ i∈od,i < n)->okG n g->Dir fl bk up g->swp fl bk od g=g->∀ i∈od,stp fl bk g i=g
 | [],g,_,_,_,_,i,hi=>by cases hi
 | j::od,g,ho,hg,k,e,i,hi=>by
  have hj:=ho j TY
  have h1:=Am hb ok hf hg k hj
  have h2:=KZ hb ok hf hg hj
  have ho':∀ i∈od,i < n:=fun i hi=>ho i (TX _ hi)
  have h3:=(mG hb ok hf od ho' h2 (jZ h1)).1
  have ej:stp fl bk g j=g:=HJ (by rw[hg.1,h2.1]) h1 h3 e
  rcases List.mem_cons.mp hi with rfl | hi
  ·exact ej
  ·have e':swp fl bk od (stp fl bk g j)=g:=e
   rw[ej] at e'
   exact HS hb ok hf od ho' hg k e' i hi
theorem Oa (hb:bk.length=n)(ok:okB bk)(hf:okG n fl){up:Bool}{od:IP}(ho:∀ i∈od,i < n)(all:∀ i < n,i∈od){g:IN}(hg:okG n g)(k:Dir fl bk up g)(e:swp fl bk od g=g):cU g fl bk=g:=by
 have hd:=cj hb ok hf g
 have key:∀ i,(cU g fl bk).getD i 0=g.getD i 0:=fun i=>by
  by_cases hi:i < n
  ·have:=HS hb ok hf od ho hg k e i (all i hi)
   have h:=nW hb hf hg hi i
   rw[this,iPo U] at h
   exact h.symm
  ·rw[TQ,Vz (by rw[hd.1];lia),TQ,Vz (by rw[hg.1];lia)]
 exact bU (by rw[hd.1,hg.1]) (fun i=>by rw[key];exact Vj _) fun i=>by rw[key];exact Vj _
def Lim (n:Nat)(fl:IN)(bk:List (List Pl))(up:Bool)(x z:IN):Prop:=okG n z/\cU z fl bk=z/\Goes fl bk up x z
theorem Gj (hb:bk.length=n)(ok:okB bk)(hf:okG n fl){up:Bool}{od:IP}(ho:∀ i∈od,i < n){x:IN}(hx:okG n x)(k:Dir fl bk up x):∀ m,okG n (itF (swp fl bk od) x m)/\Goes fl bk up x (itF (swp fl bk od) x m)
 | 0=>⟨hx,wF k⟩
 | m+1=>by
  obtain⟨h1,h2⟩:=Gj hb ok hf ho hx k m
  obtain⟨h3,h4⟩:=mG hb ok hf od ho h1 (jZ h2)
  exact⟨h4,tE h2 h3⟩
theorem Ed (hb:bk.length=n)(ok:okB bk)(hf:okG n fl){up:Bool}{od:IP}(ho:∀ i∈od,i < n){x:IN}(hx:okG n x)(k:Dir fl bk up x):∃ m,m<=9 * n/\Stops (swp fl bk od) x m:=by
 have io:=Gj hb ok hf ho hx k
 have st:∀ k,Goes fl bk up (itF (swp fl bk od) x k) (itF (swp fl bk od) x (k+1)):=fun k=>(mG hb ok hf od ho (io k).1 (jZ (io k).2)).1
 cases up with
 | true =>
  refine j6 Xb (9 * n) (fun k=>(sum_bound (io k).1.2).1) (fun k=>?_) (fun k ne=>?_)
  ·have:=(sum_bound (io k).1.2).2
   rw[(io k).1.1] at this
   lia
  ·obtain⟨h1,h2⟩:=fu ((io k).1.1.trans (io (k+1)).1.1.symm) fun i _=>(st k).1 i
   have:Xb (itF (swp fl bk od) x k)≠Xb (itF (swp fl bk od) x (k+1)):=fun e=>ne (h2 e).symm
   lia
 | false =>
  refine j6 (fun g=>9 * (n:Int) - g.sum) (9 * n) (fun k=>?_) (fun k=>?_) (fun k ne=>?_)
  ·have:=(sum_bound (io k).1.2).2
   rw[(io k).1.1] at this
   show 0<=9 * (n:Int) - Xb _
   lia
  ·have:=(sum_bound (io k).1.2).1
   show 9 * (n:Int) - Xb _<=_
   lia
  ·obtain⟨h1,h2⟩:=fu ((io (k+1)).1.1.trans (io k).1.1.symm) fun i _=>(st k).1 i
   have:Xb (itF (swp fl bk od) x (k+1))≠Xb (itF (swp fl bk od) x k):=fun e=>ne (h2 e)
   show 9 * (n:Int) - Xb _ < 9 * (n:Int) - Xb _
   lia
end
section
variable {n:Nat}{fl fl':IN}{bk:List (List Pl)}
theorem cR (hb:bk.length=n)(hf:okG n fl)(g:IN){i:Nat}(hi:i < n):(cU g fl bk).getD i 0=max (fl.getD i 0) (duF g 0 (bk.getD i [])):=by
 have h1:i < fl.length:=by rw[hf.1];exact hi
 have h2:i < bk.length:=by lia
 unfold cU
 rw[fP (duF g) h1 h2,Oc h2]
 exact pF g (bQ hf hi).1 _
theorem jU {g:IN}{i:Nat}(h:g.length<=i):g.getD i 0=0:=by rw[TQ,Vz h];rfl
theorem jB {g g':IN}(hg:g.length=n)(hg':g'.length=n)(h:∀ i < n,g.getD i 0<=g'.getD i 0):LeG g g':=jP (by lia) fun i hi=>h i (by lia)
end
abbrev dZ:Stmt:=top 44
theorem bx:aK ["_law_book_here","_law_floor","_law_giving_here","_law_here","_law_turn","_law_ahead","_law_one","_law_step"] XO (aD dZ):=gC
inductive zy (vs:Lo)(H:Hp)(Q:VK)(e3:XK):Prop where
 | mk (b f g:Addr) (n:Nat) (bk:List (List Pl)) (fl x:IN) (up:Bool) (_:vs=[.ref b,.ref f,.ref g]) (_:rO n H b bk) (_:bk.length=n) (_:H f=some (.tup (fl.map V.int))) (_:okG n fl) (_:H g=some (.tup (x.map V.int))) (_:okG n x) (_:Dir fl bk up x) (_:∀ (r:Addr) (z:IN) (H':Hp),aG H H'->H' r=some (.tup (z.map V.int))->Lim n fl bk up x z->Q (.ref r) H')
theorem lq {k:Nat} (F:Fun K "_law_step_by_step" "_law_step_by_step" dZ f fd) (B:Bt mg)
  (Wp:Df P w K mg base "_law_owed" k X2 (Ho K)):dF P w K mg base CX0 (k+1) f fd XO zy:=by
 refine okA F bx fun H Q E hr h=>?_
 obtain⟨b,f,g,n,bk,fl,x,up,rfl,hB,lb,hf,of,hg,ox,dir,q⟩:=h
 refine⟨_,(aq (sT 3 bx.nd (pv 2))
 (aq (cW U3 U (bM U B.range_ (a1 (aH bF (aH gY aj (pln K B.len_ (pv 0))) aj))) (pgN 4 bx.nd) (aq (sT 5 bx.nd (pv 3))
 (aq (cW U3 U (bM U B.range_ (a1 (pln K B.len_ (pv 0)))) (pgN 6 bx.nd) (aq (sT 7 bx.nd (aL (qX U) U B.max_ oF (au (pxT K (pv 1) (pv 6)) (a1 (aP Wp hr (au (pxL K (pv 0) (pv 6)) (v1 3)))))))
 (aO (sT 3 bx.nd (aH (r:=iB K) jj (aH (r:=iB K) jj (eX (r:=Br K) qN (pv 3) jo (gm (pv 6))) (bD (v1 7))) (eX (r:=Br K) qN (pv 3) (gm (aH bF (pv 6) aj)) jo))))))
 (aO (ifR (aU (r:=vD K) (kW hr.gU) (pv 3) (pv 5)) (pv 3))))))
 (sR (pv 3)))),?_⟩
 have okb:=hB.okB
 obtain⟨us0,hb,rb,l12⟩:=id hB
 have lu0:=rb.length
 let od:IP:=(Ui n).map fun i=>i
 have ho:∀ i∈od,i < n:=fun i hi=>by
  obtain⟨j,hj,rfl⟩:=List.mem_map.mp hi
  have:=List.mem_range.mp hj
  lia
 have hall:∀ i < n,i∈od:=fun i hi=>List.mem_map.mpr ⟨i,List.mem_range.mpr (by lia),by lia⟩
 have hod:∀ i < n,od[i]? = some i:=fun i hi=>by
  show ((Ui n).map _)[i]? = _
  rw[Uo,Wd hi]
  rfl
 have lod:od.length=n:=by show ((Ui n).map _).length=n;rw[Tw,UJ]
 obtain⟨m,hm,st⟩:=Ed lb okb of ho ox dir
 have io:=Gj lb okb of ho ox dir
 clear_value od
 refine⟨_,U,_,U,b,_,U,.inl (sqL hb),_,_,U,U,.inl ⟨by decide,by decide⟩,_,_,U,U,_,U,by lia,by lia,fc (lo:=0) (n:=(9 * (us0.length:Int)+1).toNat) (fun t σ H3=>∃ (hh:Addr) (u0 u1 u2 u3:Lc),σ=[oR b,oR f,oR g,oR hh,u0,u1,u2,u3]/\aG H H3/\H3 hh=some (.tup ((itF (swp fl bk od) x t).map V.int))/\t<=m)
  ⟨g,_,_,_,_,U,aG.refl _,hg,Uw _⟩ ?_ ?_⟩
 ·rintro t σ H3 ht ⟨hh,u0,u1,u2,u3,rfl,s3,eh,htm⟩
  refine⟨_,U,?_⟩
  refine⟨_,U,b,_,U,.inl (sqL (s3 _ _ hb)),_,U,by lia,by lia,fc (lo:=0) (n:=us0.length) (fun i σ H4=>∃ (h2:Addr) (v0 v1:Lc),σ=[oR b,oR f,oR g,oR h2,some (.int (0+(t:Int))),oR hh,v0,v1]/\aG H3 H4/\H4 h2=some (.tup ((swp fl bk (od.take i) (itF (swp fl bk od) x t)).map V.int)))
   ⟨hh,_,_,U,aG.refl _,by rw[Vs];exact eh⟩ ?_ ?_⟩
  ·rintro i σ H4 hi ⟨h2,v0,v1,rfl,s4,e2⟩
   have hin:i < n:=by lia
   have od':∀ j∈od.take i,j < n:=fun j hj=>ho j (Xx hj)
   obtain⟨_,og⟩:=mG lb okb of (od.take i) od' (io t).1 (jZ (io t).2)
   have enext:swp fl bk (od.take (i+1)) (itF (swp fl bk od) x t)=stp fl bk (swp fl bk (od.take i) (itF (swp fl bk od) x t)) i:=by
    unfold swp
    rw[Ux,hod i hin]
    show ((od.take i)++[i]).foldl _ _=_
    rw[abz]
    rfl
   generalize swp fl bk (od.take i) (itF (swp fl bk od) x t)=gs at *
   have hfi:i < fl.length:=by rw[of.1];exact hin
   have at1:atI (fl.map V.int) (0+(i:Int))=some (.int fl[i]):=by rw[Wt];exact jJ hfi
   have hy:us0[i]? = some us0[i]:=TJ hi
   obtain⟨c,as,ps,ec,hps,hc,l100,rps⟩:=rb.get hy
   have at2:atI us0 (0+(i:Int))=some (.ref c):=by rw[Wt,← ec];exact gZ hy
   have s34:aG H H4:=s3.trans s4
   have hf0:=(of.2 fl[i] (VD hfi)).1
   refine⟨_,U,_,U,f,_,_,_,U,U,sqT (s34 _ _ hf),at1,_,U,_,U,b,_,_,_,U,U,sqL (s34 _ _ hb),at2,_,U,c,h2,n,as,ps,gs,U,s34 _ _ hc,l100,rps.aY (fun a xs q=>s34 a _ q),sqT e2,by rw[og.1];lia,fun H5 s5=>?_⟩
   refine⟨_,_,U,?_⟩
   have ez:(if duF gs 0 ps > fl[i] then duF gs 0 ps else fl[i])=duF gs fl[i] ps:=by
    rw[pF gs hf0 ps]
    split <;> lia
   rw[ez]
   refine gN ?_
   dsimp only
   refine R7 (k:=i) (v:=.int (duF gs fl[i] ps)) U (by rw[Wt (i:Int)];rfl) U (s5 _ _ e2) (by rw[Tw,og.1];exact hin) (by rw[Tw,og.1];lia) fun p6 H6 s6 e6=>?_
   refine⟨p6,_,_,U,s4.trans (s5.trans s6),?_⟩
   rw[e6,enext]
   unfold stp
   have eb:bk.getD i []=ps:=by rw[TQ,hps];rfl
   have ef:fl.getD i 0=fl[i]:=by rw[TQ,TJ hfi];rfl
   rw[eb,ef,List.map_set]
  ·rintro σ H4 ⟨h2,v0,v1,rfl,s4,e2⟩
   rw[show us0.length=od.length by lia,Ul] at e2
   refine⟨_,U,_,U,h2,hh,_,_,U,U,sqT e2,sqT (s4 _ _ eh),_,U,?_⟩
   by_cases e:swp fl bk od (itF (swp fl bk od) x t)=itF (swp fl bk od) x t
   ·rw[dcT e]
    refine gF ⟨_,U,?_⟩
    rw[e] at e2
    exact q h2 _ H4 (s3.trans s4) e2 ⟨(io t).1,Oa lb okb of ho hall (io t).1 (jZ (io t).2) e,(io t).2⟩
   ·rw[dcF e]
    refine fC ⟨h2,_,_,_,_,U,s3.trans s4,e2,?_⟩
    rcases V0 t m with z | z
    ·exact z
    ·have:t=m:=by lia
     subst this
     exact absurd st.1 e
 ·rintro σ H3 ⟨hh,u0,u1,u2,u3,rfl,s3,eh,htm⟩
  lia
def Oj (x:Nat):IP->IP
 | []=>[x]
 | y::r=>if x<=y then x::y::r else y::Oj x r
def DR:IP->IP
 | []=>[]
 | x::r=>Oj x (DR r)
theorem qO (x:Nat):∀ l:IP,(Oj x l).Perm (x::l)
 | []=>.refl _
 | y::r=>by
  rw[Oj]
  split
  ·exact .refl _
  ·exact ((qO x r).cons y).trans (.swap x y r)
theorem rA:∀ l:IP,(DR l).Perm l
 | []=>.refl _
 | x::r=>(qO x _).trans ((rA r).cons x)
theorem qg (x:Nat):∀ {l:IP},l.Pairwise (·<=·)->(Oj x l).Pairwise (·<=·)
 | [],_=>by rw[Oj];simp
 | y::r,h=>by
  rw[Oj]
  rw[Wu] at h
  split
  ·rw[Wu,Wu]
   refine⟨fun z hz=>?_,h⟩
   rcases List.mem_cons.mp hz with rfl | hz
   ·assumption
   ·have:=h.1 z hz
    lia
  ·rw[Wu]
   refine⟨fun z hz=>?_,qg x h.2⟩
   rcases List.mem_cons.mp ((qO x r).mem_iff.mp hz) with rfl | hz
   ·lia
   ·exact h.1 z hz
theorem kJ:∀ l:IP,(DR l).Pairwise (·<=·)
 | []=>by rw[DR];simp
 | x::r=>qg x (kJ r)
theorem Ga {l:IP}{ms:IN}(p:ms.Perm (l.map fun i:Nat=>(i:Int)))(h:ms.Pairwise (·<=·)):ms=(DR l).map fun i:Nat=>(i:Int):=by
 refine sI (p.trans ((rA l).map _).symm) h ?_
 rw[Yp]
 exact (kJ l).imp fun h=>by lia
mutual
def ren (f:Nat->Nat):Tm->Tm
 | .free=>.free
 | .never=>.never
 | .gives i k=>.gives (f i) k
 | .sum c k=>.sum (DR (c.map f)) k
 | .crowd c k m=>.crowd (DR (c.map f)) k m
 | .all ts=>.all (BZ f ts)
 | .any ts=>.any (BZ f ts)
def BZ (f:Nat->Nat):List Tm->List Tm
 | []=>[]
 | t::r=>ren f t::BZ f r
end
theorem mQ (f:Nat->Nat):∀ ts:List Tm,BZ f ts=ts.map (ren f)
 | []=>by rw[BZ];rfl
 | t::r=>by rw[BZ,mQ f r];rfl
mutual
theorem Ek (f:Nat->Nat):∀ t:Tm,(ren f t).dep=t.dep
 | .free=>by rw[ren]
 | .never=>by rw[ren]
 | .gives i k=>by rw[ren,Tm.dep,Tm.dep] <;> simp
 | .sum c k=>by rw[ren,Tm.dep,Tm.dep] <;> simp
 | .crowd c k m=>by rw[ren,Tm.dep,Tm.dep] <;> simp
 | .all ts=>by rw[ren,Tm.dep,Tm.dep,uG f ts]
 | .any ts=>by rw[ren,Tm.dep,Tm.dep,uG f ts]
theorem uG (f:Nat->Nat):∀ ts:List Tm,tdL (BZ f ts)=tdL ts
 | []=>by rw[BZ]
 | t::r=>by rw[BZ,tdL,tdL,Ek f t,uG f r]
end
def oZ (rs:IP)(i:Nat):Nat:=rs.getD i 0
theorem Bd {rs:IP}{i:Nat}(h:i < rs.length):oZ rs i∈rs:=by
 unfold oZ
 rw[TQ,TJ h]
 exact VD h
theorem J8 {rs:IP}(nd:rs.Nodup){i j:Nat}(hi:i < rs.length)(hj:j < rs.length)(hij:i < j):oZ rs i≠oZ rs j:=by
 unfold oZ
 rw[TQ,TJ hi,TQ,TJ hj]
 exact List.pairwise_iff_getElem.mp nd i j hi hj hij
theorem xU {rs c:IP}{m n:Nat}(nd:rs.Nodup)(hm:m<=rs.length)(hv:∀ x∈rs,x < n)(hc:∀ i∈c,i < m)(hp:c.Pairwise (· < ·)) :
  (∀ i∈DR (c.map (oZ rs)),i < n)/\(DR (c.map (oZ rs))).Pairwise (· < ·)/\(DR (c.map (oZ rs))).length=c.length:=by
 have pm:=rA (c.map (oZ rs))
 refine⟨fun i hi=>?_,?_,by rw[pm.length_eq,Tw]⟩
 ·obtain⟨j,hj,rfl⟩:=List.mem_map.mp (pm.mem_iff.mp hi)
  exact hv _ (Bd (Us (hc j hj) hm))
 ·have nd2:(c.map (oZ rs)).Nodup:=by
   show (c.map (oZ rs)).Pairwise (·≠·)
   rw[Yp]
   exact List.Pairwise.imp_of_mem (fun {a b} ha hb h=>J8 nd (Us (hc a ha) hm) (Us (hc b hb) hm) h) hp
  have nd3:(DR (c.map (oZ rs))).Nodup:=pm.nodup_iff.mpr nd2
  exact ((kJ _).and nd3).imp fun h=>by lia
theorem HB {rs:IP}{i:Nat}(h:i < rs.length):atI (rs.map vN) (i:Int)=some (vN (oZ rs i)):=by
 refine gZ ?_
 unfold oZ
 rw[Uo,TQ,TJ h]
 rfl
theorem QV {b:Bool}{A B:Prop}(h:b=true)(a:A):if b=true then A else B:=by rw[iPo h];exact a
theorem Dt {b:Bool}{A B:Prop}(h:b=false)(a:B):if b=true then A else B:=by rw[iNe (by rw[h];exact Uc)];exact a
abbrev jf:Stmt:=top 34
theorem rD:aK YA YA (aD jf):=gC
inductive Dq (K:UT)(d:Nat)(vs:Lo)(H:Hp)(Q:VK)(e3:XK):Prop where
 | mk (v:V) (row:Addr) (m n:Nat) (t:Tm) (rs:IP) (_:vs=[v,.ref row]) (_:oG m H v t) (_:t.dep<=d) (_:SqL K H row (rs.map vN)) (_:m<=rs.length) (_:rs.Nodup) (_:(∀ x∈rs,x < n)) (_:∀ (v':V) (H':Hp),aG H H'->oG n H' v' (ren (oZ rs) t)->Q v' H')
theorem Ji:dF P w K mg base CX0 0 f fd YA (Dq K 0):=by
 have no:∀ vs H Q E,¬ Dq K 0 vs H Q E:=fun vs H Q E h=>by
  obtain⟨v,row,m,n,t,rs,_,_,h1,_⟩:=h
  have:=t.ye
  lia
 exact⟨fun vs H Q E h=>absurd h (no vs H Q E),fun A outer s H args us vs Q E _ _ _ _ h=>absurd h (no vs H Q E)⟩
theorem yX {K:UT}{H H':Hp}{a:Addr}{xs:Lo}(e:aG H H')(h:SqL K H a xs):SqL K H' a xs:=e.seq h
theorem iy {d:Nat} (F:Fun K "_law_renamed" "_law_renamed" jf f fd) (B:Bt mg)
  (WC:Df P w K mg base "_law_renamed" d YA (Dq K d)):dF P w K mg base CX0 (d+1) f fd YA (Dq K (d+1)):=by
 refine okA F rD fun H Q E hr h=>?_
 obtain⟨v,row,m,n,t,rs,rfl,rt,hd,hR,hm,nd,hv,q⟩:=h
 refine⟨_,(aq (ifR (aU dg (pxT K (pv 0) aj) bK) (bD (au bK (au (pxL K (pv 1) (pxT K (pv 0) aj)) (a1 (pxT K (pv 0) aj))))))
 (aq (ifR (nQ (r:=rIn K false) iJ (pxT K (pv 0) aj) (bD (au bK (a1 bK))) U) (aH (r:=iB K) jj (bD (au (pxT K (pv 0) aj) (a1 (bG (r:=fH K) bw U B.tuple_ bW (a1 (aL (r:=KN K) CW U B.sorted_ (by decide+kernel) (a1 (bh (L:=ZO) (F:=["_law_row"]) (cap:=[1]) U (aV U U (by kernel_rfl)) (fX (pxT K (pv 0) aj)) (fun _ _ _ _ _=>(pgC 0)) (fun _ _ _ _ _=>bu) (fun _ _ _ _ _=>(pxL K (pv 1) (pv 0))))))))))) (eX (r:=Br K) qN (pv 0) (gm aj) jo)))
 (aq (ifR (nQ (r:=rIn K false) iJ (pxT K (pv 0) aj) (bD (au bK (a1 bK))) U) (bD (au (pxT K (pv 0) aj) (a1 (bG (r:=fH K) bw U B.tuple_ bW (a1 (bh (L:=["_law_part"]) (F:=["_law_row"]) (cap:=[1]) U (aV U U (by kernel_rfl)) (fX (pxT K (pv 0) aj)) (fun _ _ _ _ _=>(pgC 0)) (fun _ _ _ _ _=>bu) (fun _ _ _ _ _=>(aP WC hr (v2 0 1))))))))))
 (sR (pv 0))))),?_⟩
 cases rt with
 | @free a ha =>
  refine⟨_,U,a,_,_,_,U,U,sqT ha,gt0,U,_,U,gk fQ ⟨_,U,a,_,_,_,U,U,sqT ha,gt0,smN 2,fun p1 h1=>⟨p1,_,U,.inr (sqT aa),U,U,_,U,Dt (by decide+kernel) ?_⟩⟩⟩
  generalize eH1:upd H p1 _=H1
  obtain⟨g1,_⟩:=aC eH1 h1
  refine⟨_,U,a,_,_,_,U,U,sqT (g1 _ _ ha),gt0,smN 2,fun p2 h2=>⟨p2,_,U,.inr (sqT aa),U,U,_,U,Dt (by decide+kernel) ?_⟩⟩
  generalize eH2:upd H1 p2 _=H2
  obtain⟨g2,_⟩:=aC eH2 h2
  refine⟨_,U,?_⟩
  have q':=q (.ref a) H2 (g1.trans g2) (by rw[ren];exact .free (g2 _ _ (g1 _ _ ha)))
  exact q'
 | @never a ha =>
  refine⟨_,U,a,_,_,_,U,U,sqT ha,gt0,U,_,U,gk fQ ⟨_,U,a,_,_,_,U,U,sqT ha,gt0,smN 2,fun p1 h1=>⟨p1,_,U,.inr (sqT aa),U,U,_,U,Dt (by decide+kernel) ?_⟩⟩⟩
  generalize eH1:upd H p1 _=H1
  obtain⟨g1,_⟩:=aC eH1 h1
  refine⟨_,U,a,_,_,_,U,U,sqT (g1 _ _ ha),gt0,smN 2,fun p2 h2=>⟨p2,_,U,.inr (sqT aa),U,U,_,U,Dt (by decide+kernel) ?_⟩⟩
  generalize eH2:upd H1 p2 _=H2
  obtain⟨g2,_⟩:=aC eH2 h2
  refine⟨_,U,?_⟩
  have q':=q (.ref a) H2 (g1.trans g2) (by rw[ren];exact .never (g2 _ _ (g1 _ _ ha)))
  exact q'
 | @gives a i k ha hi k1 k9 =>
  refine⟨_,U,a,_,_,_,U,U,sqT ha,gt0,U,_,U,DN U ⟨_,U,_,U,a,_,_,_,U,U,sqT ha,gt1,row,_,_,_,U,U,hR,HB (by lia),_,U,a,_,_,_,U,U,sqT ha,gt2,smN 3,fun p1 h1=>?_⟩⟩
  refine q (.ref p1) _ (aA h1 _) ?_
  rw[ren]
  exact .gives aa (hv _ (Bd (by lia))) k1 k9
 | @sum a b c k ha hb hc hp l20 l2 k1 k99 =>
  obtain⟨x1,x2,x3⟩:=xU nd hm hv hc hp
  refine⟨_,U,a,_,_,_,U,U,sqT ha,gt0,U,_,U,gk fQ ⟨_,U,a,_,_,_,U,U,sqT ha,gt0,smN 2,fun p1 h1=>⟨p1,_,U,.inr (sqT aa),U,U,_,U,QV (by decide+kernel) ?_⟩⟩⟩
  generalize eH1:upd H p1 _=H1
  obtain⟨g1,_⟩:=aC eH1 h1
  refine⟨_,U,a,_,_,_,U,U,sqT (g1 _ _ ha),gt0,?_⟩
  refine⟨_,U,a,_,_,_,U,U,sqT (g1 _ _ ha),gt1,b,U,⟨_,sqT (g1 _ _ hb)⟩,fun D hD=>dW (K:=K) (a:=b) (xs:=c.map vN) (fun i zs σ' H2=>(∃ u,σ'=[u,oR row])/\zs=((c.take i).map (oZ rs)).map vN/\aG H1 H2/\H2 D=some (.lst zs))
   ⟨⟨_,U⟩,U,aA hD _,aa⟩ (fun i zs σ' H2 _ h=>⟨sqT (h.2.2.1 _ _ (g1 _ _ hb)),h.2.2.2⟩) ?_ ?_⟩
  ·rintro j zs x σ' H2 hx ⟨⟨u,rfl⟩,e1,sm,hDl⟩
   obtain⟨i,hi,rfl⟩:=pM hx
   have him:=hc i (Ud hi)
   refine gT ?_
   refine⟨_,U,_,U,row,_,_,_,U,U,yX (g1.trans sm) hR,HB (by lia),hDl,?_,⟨_,U⟩,?_,aF sm hD _,aa⟩
   ·rw[e1,Tw,Tw,Uj]
    exact aB (by lia)
   ·rw[e1,take_snoc (oZ rs) hi,T9]
    rfl
  ·rintro zs σ' H2 ⟨_,e1,sm,hDl⟩
   rw[Tw,Ul] at e1
   refine⟨D,(c.map (oZ rs)).map fun i:Nat=>(i:Int),U,sqL (by rw[hDl,e1,je]),by rw[Tw,Tw];lia,fun ms pm so l hl=>?_⟩
   rw[Ga pm so,← je]
   generalize eH3:upd H2 l _=H3
   obtain⟨g3,e3⟩:=aC eH3 hl
   refine⟨l,_,U,.inl ⟨sqL e3,fun p4 h4=>?_⟩⟩
   generalize eH4:upd H3 p4 _=H4
   obtain⟨g4,e4⟩:=aC eH4 h4
   refine⟨smN 2,fun p5 h5=>?_⟩
   generalize eH5:upd H4 p5 _=H5
   obtain⟨g5,e5⟩:=aC eH5 h5
   have s5:aG H H5:=g1.trans (sm.trans (g3.trans (g4.trans g5)))
   refine⟨_,U,_,U,a,_,U,sqT (s5 _ _ ha),(by show ¬ (HT.sIx 3 0 (some 2)=0/\HT.sIx 3 3 none=3);decide),fun p6 h6=>?_⟩
   have ec:xZ [V.str "sum",.ref b,.int k] (some 2) none=[.int k]:=rfl
   rw[ec]
   generalize eH6:upd H5 p6 _=H6
   obtain⟨g6,e6⟩:=aC eH6 h6
   refine⟨p5,p6,_,_,U,U,sqT (g6 _ _ e5),sqT e6,smN 3,fun z=>(by cases z),fun _ z=>(by cases z),fun _ _ p7 h7=>?_⟩
   refine q (.ref p7) _ (s5.trans (g6.trans (aA h7 _))) ?_
   rw[ren]
   exact .sum aa (aA h7 _ _ _ (g6 _ _ (g5 _ _ e4))) x1 x2 (by lia) (by lia) k1 k99
 | @crowd a b c k mm ha hb hc hp l20 l1 k1 k9 m1 m12 =>
  obtain⟨x1,x2,x3⟩:=xU nd hm hv hc hp
  refine⟨_,U,a,_,_,_,U,U,sqT ha,gt0,U,_,U,gk fQ ⟨_,U,a,_,_,_,U,U,sqT ha,gt0,smN 2,fun p1 h1=>⟨p1,_,U,.inr (sqT aa),U,U,_,U,QV (by decide+kernel) ?_⟩⟩⟩
  generalize eH1:upd H p1 _=H1
  obtain⟨g1,_⟩:=aC eH1 h1
  refine⟨_,U,a,_,_,_,U,U,sqT (g1 _ _ ha),gt0,?_⟩
  refine⟨_,U,a,_,_,_,U,U,sqT (g1 _ _ ha),gt1,b,U,⟨_,sqT (g1 _ _ hb)⟩,fun D hD=>dW (K:=K) (a:=b) (xs:=c.map vN) (fun i zs σ' H2=>(∃ u,σ'=[u,oR row])/\zs=((c.take i).map (oZ rs)).map vN/\aG H1 H2/\H2 D=some (.lst zs))
   ⟨⟨_,U⟩,U,aA hD _,aa⟩ (fun i zs σ' H2 _ h=>⟨sqT (h.2.2.1 _ _ (g1 _ _ hb)),h.2.2.2⟩) ?_ ?_⟩
  ·rintro j zs x σ' H2 hx ⟨⟨u,rfl⟩,e1,sm,hDl⟩
   obtain⟨i,hi,rfl⟩:=pM hx
   have him:=hc i (Ud hi)
   refine gT ?_
   refine⟨_,U,_,U,row,_,_,_,U,U,yX (g1.trans sm) hR,HB (by lia),hDl,?_,⟨_,U⟩,?_,aF sm hD _,aa⟩
   ·rw[e1,Tw,Tw,Uj]
    exact aB (by lia)
   ·rw[e1,take_snoc (oZ rs) hi,T9]
    rfl
  ·rintro zs σ' H2 ⟨_,e1,sm,hDl⟩
   rw[Tw,Ul] at e1
   refine⟨D,(c.map (oZ rs)).map fun i:Nat=>(i:Int),U,sqL (by rw[hDl,e1,je]),by rw[Tw,Tw];lia,fun ms pm so l hl=>?_⟩
   rw[Ga pm so,← je]
   generalize eH3:upd H2 l _=H3
   obtain⟨g3,e3⟩:=aC eH3 hl
   refine⟨l,_,U,.inl ⟨sqL e3,fun p4 h4=>?_⟩⟩
   generalize eH4:upd H3 p4 _=H4
   obtain⟨g4,e4⟩:=aC eH4 h4
   refine⟨smN 2,fun p5 h5=>?_⟩
   generalize eH5:upd H4 p5 _=H5
   obtain⟨g5,e5⟩:=aC eH5 h5
   have s5:aG H H5:=g1.trans (sm.trans (g3.trans (g4.trans g5)))
   refine⟨_,U,_,U,a,_,U,sqT (s5 _ _ ha),(by show ¬ (HT.sIx 4 0 (some 2)=0/\HT.sIx 4 4 none=4);decide),fun p6 h6=>?_⟩
   have ec:xZ [V.str "crowd",.ref b,.int k,.int mm] (some 2) none=[.int k,.int mm]:=rfl
   rw[ec]
   generalize eH6:upd H5 p6 _=H6
   obtain⟨g6,e6⟩:=aC eH6 h6
   refine⟨p5,p6,_,_,U,U,sqT (g6 _ _ e5),sqT e6,smN 4,fun z=>(by cases z),fun _ z=>(by cases z),fun _ _ p7 h7=>?_⟩
   refine q (.ref p7) _ (s5.trans (g6.trans (aA h7 _))) ?_
   rw[ren]
   exact .crowd aa (aA h7 _ _ _ (g6 _ _ (g5 _ _ e4))) x1 x2 (by lia) (by lia) k1 k9 m1 m12
 | @all a b us ts ha hb l2 l6 rl =>
  have hdl:tdL ts<=d:=by rw[Tm.dep] at hd;lia
  have el:=rl.length
  refine⟨_,U,a,_,_,_,U,U,sqT ha,gt0,U,_,U,gk fQ ⟨_,U,a,_,_,_,U,U,sqT ha,gt0,smN 2,fun p1 h1=>⟨p1,_,U,.inr (sqT aa),U,U,_,U,Dt (by decide+kernel) ?_⟩⟩⟩
  generalize eH1:upd H p1 _=H1
  obtain⟨g1,_⟩:=aC eH1 h1
  refine⟨_,U,a,_,_,_,U,U,sqT (g1 _ _ ha),gt0,smN 2,fun p2 h2=>⟨p2,_,U,.inr (sqT aa),U,U,_,U,QV (by decide+kernel) ?_⟩⟩
  generalize eH2:upd H1 p2 _=H2
  obtain⟨g2,_⟩:=aC eH2 h2
  have s2:aG H H2:=g1.trans g2
  refine⟨_,U,a,_,_,_,U,U,sqT (s2 _ _ ha),gt0,?_⟩
  refine⟨_,U,a,_,_,_,U,U,sqT (s2 _ _ ha),gt1,b,U,⟨_,sqT (s2 _ _ hb)⟩,fun D hD=>dW (K:=K) (a:=b) (xs:=us) (fun i zs σ' H3=>(∃ u,σ'=[u,oR row])/\zs.length=i/\aG H2 H3/\H3 D=some (.lst zs)/\dJ n H3 zs (BZ (oZ rs) (ts.take i)))
   ⟨⟨_,U⟩,U,aA hD _,aa,by rw[Vs,BZ];exact .nil⟩ (fun i zs σ' H3 _ h=>⟨sqT (h.2.2.1 _ _ (s2 _ _ hb)),h.2.2.2.1⟩) ?_ ?_⟩
  ·rintro j zs x σ' H3 hx ⟨⟨u,rfl⟩,lz,sm,hDl,rz⟩
   obtain⟨t,ht,rt⟩:=rl.get hx
   have hj:=(geS hx).1
   refine gT ?_
   refine⟨_,U,_,U,x,row,m,n,t,rs,U,rt.mono (s2.trans sm),Vd (nU ht) hdl,yX (s2.trans sm) hR,hm,nd,hv,fun v' H4 s4 r4=>?_⟩
   have s7:=bO (zs':=zs++[v']) (s4 _ _ hDl)
   refine⟨s4 _ _ hDl,aB (by lia),⟨_,U⟩,by rw[Uh,lz];rfl,aF (sm.trans s4) hD _,aa,?_⟩
   rw[mQ,take_snoc (ren (oZ rs)) ht,← mQ]
   exact ((rz.mono s4).aY s7).snoc (r4.aY s7)
  ·rintro zs σ' H3 ⟨_,lz,sm,hDl,rz⟩
   rw[el,Ul] at rz
   refine⟨D,_,U,.inl ⟨sqL hDl,fun p4 h4=>?_⟩⟩
   generalize eH4:upd H3 p4 _=H4
   obtain⟨g4,e4⟩:=aC eH4 h4
   refine⟨smN 2,fun p5 h5=>?_⟩
   refine q (.ref p5) _ (s2.trans (sm.trans (g4.trans (aA h5 _)))) ?_
   rw[ren]
   exact .all aa (aA h5 _ _ _ e4) (by lia) (by lia) (rz.mono (g4.trans (aA h5 _)))
 | @any a b us ts ha hb l2 l6 rl =>
  have hdl:tdL ts<=d:=by rw[Tm.dep] at hd;lia
  have el:=rl.length
  refine⟨_,U,a,_,_,_,U,U,sqT ha,gt0,U,_,U,gk fQ ⟨_,U,a,_,_,_,U,U,sqT ha,gt0,smN 2,fun p1 h1=>⟨p1,_,U,.inr (sqT aa),U,U,_,U,Dt (by decide+kernel) ?_⟩⟩⟩
  generalize eH1:upd H p1 _=H1
  obtain⟨g1,_⟩:=aC eH1 h1
  refine⟨_,U,a,_,_,_,U,U,sqT (g1 _ _ ha),gt0,smN 2,fun p2 h2=>⟨p2,_,U,.inr (sqT aa),U,U,_,U,QV (by decide+kernel) ?_⟩⟩
  generalize eH2:upd H1 p2 _=H2
  obtain⟨g2,_⟩:=aC eH2 h2
  have s2:aG H H2:=g1.trans g2
  refine⟨_,U,a,_,_,_,U,U,sqT (s2 _ _ ha),gt0,?_⟩
  refine⟨_,U,a,_,_,_,U,U,sqT (s2 _ _ ha),gt1,b,U,⟨_,sqT (s2 _ _ hb)⟩,fun D hD=>dW (K:=K) (a:=b) (xs:=us) (fun i zs σ' H3=>(∃ u,σ'=[u,oR row])/\zs.length=i/\aG H2 H3/\H3 D=some (.lst zs)/\dJ n H3 zs (BZ (oZ rs) (ts.take i)))
   ⟨⟨_,U⟩,U,aA hD _,aa,by rw[Vs,BZ];exact .nil⟩ (fun i zs σ' H3 _ h=>⟨sqT (h.2.2.1 _ _ (s2 _ _ hb)),h.2.2.2.1⟩) ?_ ?_⟩
  ·rintro j zs x σ' H3 hx ⟨⟨u,rfl⟩,lz,sm,hDl,rz⟩
   obtain⟨t,ht,rt⟩:=rl.get hx
   have hj:=(geS hx).1
   refine gT ?_
   refine⟨_,U,_,U,x,row,m,n,t,rs,U,rt.mono (s2.trans sm),Vd (nU ht) hdl,yX (s2.trans sm) hR,hm,nd,hv,fun v' H4 s4 r4=>?_⟩
   have s7:=bO (zs':=zs++[v']) (s4 _ _ hDl)
   refine⟨s4 _ _ hDl,aB (by lia),⟨_,U⟩,by rw[Uh,lz];rfl,aF (sm.trans s4) hD _,aa,?_⟩
   rw[mQ,take_snoc (ren (oZ rs)) ht,← mQ]
   exact ((rz.mono s4).aY s7).snoc (r4.aY s7)
  ·rintro zs σ' H3 ⟨_,lz,sm,hDl,rz⟩
   rw[el,Ul] at rz
   refine⟨D,_,U,.inl ⟨sqL hDl,fun p4 h4=>?_⟩⟩
   generalize eH4:upd H3 p4 _=H4
   obtain⟨g4,e4⟩:=aC eH4 h4
   refine⟨smN 2,fun p5 h5=>?_⟩
   refine q (.ref p5) _ (s2.trans (sm.trans (g4.trans (aA h5 _)))) ?_
   rw[ren]
   exact .any aa (aA h5 _ _ _ e4) (by lia) (by lia) (rz.mono (g4.trans (aA h5 _)))
def shN (one k:Nat):Nat:=k+if one<=k then 1 else 0
def shR (one m:Nat):IP:=(Ui m).map (shN one)
theorem Ie (one m:Nat):(shR one m).Nodup:=by
 unfold shR
 show ((Ui m).map (shN one)).Pairwise (·≠·)
 rw[Yp]
 refine List.pairwise_lt_range.imp fun {a b} h=>?_
 unfold shN
 split <;> split <;> lia
theorem Qj {one m:Nat}:∀ x∈shR one m,x < m+1:=fun x hx=>by
 unfold shR at hx
 obtain⟨k,hk,rfl⟩:=List.mem_map.mp hx
 have:=List.mem_range.mp hk
 unfold shN
 split <;> lia
abbrev nq:Stmt:=top 35
theorem zO:aK XE XE (aD nq):=gC
inductive K6 (vs:Lo)(H:Hp)(Q:VK)(e3:XK):Prop where
 | mk (c:Int) (n one:Nat) (deep:Int) (mo:Nat) (_:vs=[.int c,.int (n:Int),.int (one:Int),.int deep,.int (mo:Int)]) (_:1<=n) (_:n<=12) (_:one < n) (_:1<=deep) (_:deep<=3) (_:1<=mo) (_:mo<=9) (_:∀ (v:V) (t:Tm) (H':Hp),aG H H'->oG n H' v t->t.dep<=3->Q v H')
theorem zU (F:Fun K "_law_mine" "_law_mine" nq f fd) (B:Bt mg)
  (WJ:Df P w K mg base "_law_term" 4 XI (sW 3)) (WC:Df P w K mg base "_law_renamed" 3 YA (Dq K 3)):dF P w K mg base CX0 5 f fd XE K6:=by
 refine okA F zO fun H Q E hr h=>?_
 obtain⟨c,n,one,deep,mo,rfl,n1,n12,hone,de1,de3,m1,m9,q⟩:=h
 refine⟨_,(aq (ifR (aU dg (pv 1) aj) (bD (a1 (pxL K (aX (au bK (au bK (a1 bK)))) (aH cI (pv 0) aj)))))
 (sR (aP WC hr (au (aP WJ hr (au (pv 0) (au (aH oV (pv 1) aj) (v2 3 4)))) (a1 (bh (L:=ZT) (F:=ZO) (cap:=[2]) U (aV U U (by kernel_rfl)) (bM U B.range_ (a1 (aH oV (pv 1) aj))) (fun _ _ _ _ _=>(pgC 0)) (fun _ _ _ _ _=>bu) (fun _ _ _ _ _=>(aH bF (pv 0) (bG (r:=Py) wO U B.int_ zX (a1 (dX vy (pv 0) (pv 1)))))))))))),?_⟩
 refine⟨_,U,U,_,U,?_⟩
 refine DK (fun c1=>?_) (fun c1=>?_)
 ·have en:n=1:=by
   have:=of_decide_eq_true c1
   cases n with
   | zero=>lia
   | succ n=>injection this with z;lia
  subst en
  refine⟨smN 3,fun p7 h7=>?_⟩
  generalize eH7:upd H p7 _=H7
  obtain⟨g7,e7⟩:=aC eH7 h7
  have fin:∀ p8 (x:VM),H7 p8=none->(x = "free"∨x = "never")->Q (.ref p8) (upd H7 p8 (.tup [.str x])):=fun p8 x h8 hx=>by
   rcases hx with rfl | rfl
   ·exact q (.ref p8) .free _ (g7.trans (aA h8 _)) (.free aa) (by decide)
   ·exact q (.ref p8) .never _ (g7.trans (aA h8 _)) (.never aa) (by decide)
  refine⟨_,U,_,_,U,U,(by show (0:Int) < 3;decide),?_⟩
  have u1:0<=c % 3:=Vp _ (by lia)
  have u2:c % 3 < 3:=U7 _ (by lia)
  rcases (show c % 3=0∨c % 3=1∨c % 3=2 by lia) with z | z | z
  ·exact⟨p7,_,_,_,U,U,sqL e7,by rw[z];rfl,smN 1,fun p8 h8=>fin p8 _ h8 (.inl U)⟩
  ·exact⟨p7,_,_,_,U,U,sqL e7,by rw[z];rfl,smN 1,fun p8 h8=>fin p8 _ h8 (.inr U)⟩
  ·exact⟨p7,_,_,_,U,U,sqL e7,by rw[z];rfl,smN 1,fun p8 h8=>fin p8 _ h8 (.inl U)⟩
 ·have en:n≠1:=fun z=>c1 (dcT (by rw[z];rfl))
  obtain⟨m,rfl⟩:∃ m,n=m+1:=⟨n - 1,by lia⟩
  have em:((m+1:Nat):Int) - 1=(m:Int):=by lia
  have et:(((m+1:Nat):Int) - 1).toNat=m:=by lia
  refine⟨_,U,_,U,_,_,U,U,_,U,_,U,c,m,deep,(mo:Int),(by show[V.int c,V.int (((m+1:Nat):Int) - 1),V.int deep,V.int (mo:Int)]=_;rw[em]),by lia,by lia,de1,by lia,by lia,by lia,fun v t H1 s1 rt td=>?_⟩
  refine⟨_,U,_,_,U,U,_,U,by lia,by lia,fun D hD=>dH (lo:=0) (n:=(((m+1:Nat):Int) - 1).toNat) (fun i zs σ' H2=>(∃ u,σ'=[u,some (.int (one:Int))])/\zs=((Ui i).map (shN one)).map vN/\aG H1 H2/\H2 D=some (.lst zs))
   ⟨⟨_,U⟩,U,aA hD _,aa⟩ (fun i zs σ' H2 _ h=>h.2.2.2) ?_ ?_⟩
  ·rintro i zs σ' H2 hi ⟨⟨u,rfl⟩,e1,sm,hDl⟩
   refine gT ?_
   refine⟨_,U,_,U,_,U,_,_,U,U,.inr ⟨_,U,_,_,U,U,hDl,?_,⟨_,U⟩,?_,aF sm hD _,aa⟩⟩
   ·rw[e1,Tw,Tw,UJ]
    exact aB (by lia)
   ·rw[e1,Xm,T9,T9]
    congr 1
    show[V.int (0+(i:Int)+_)]=[V.int ((shN one i:Nat):Int)]
    congr 2
    unfold shN
    by_cases hc:one<=i
    ·rw[dcT (by lia),iPo hc]
     simp
    ·rw[dcF (by lia),iNe hc]
     simp
  ·rintro zs σ' H2 ⟨_,e1,sm,hDl⟩
   rw[et] at e1
   refine⟨v,D,m,m+1,t,shR one m,U,rt.mono sm,by lia,sqL (by rw[hDl,e1];rfl),by unfold shR;rw[Tw,UJ];lia,Ie one m,Qj,fun v' H3 s3 r3=>?_⟩
   exact q v' _ H3 (s1.trans (sm.trans s3)) r3 (by rw[Ek];lia)
theorem Ly {x:Int}:∀ (ns acc:IN),x∈ns.foldl Ww acc ↔ x∈acc∨x∈ns
 | [],acc=>by simp
 | n::r,acc=>by
  rw[Vw,Ly r _]
  unfold Ww
  split
  ·rename_i h
   obtain⟨y,hy,ey⟩:=List.any_eq_true.mp h
   have e:=eq_of_beq ey
   constructor
   ·rintro (h | h)
    ·exact .inl h
    ·exact .inr (TX _ h)
   ·rintro (h | h)
    ·exact .inl h
    ·rcases List.mem_cons.mp h with rfl | h
     ·exact .inl (by rw[← e];exact hy)
     ·exact .inr h
  ·constructor
   ·rintro (h | h)
    ·rcases List.mem_append.mp h with h | h
     ·exact .inl h
     ·exact .inr (by rw[List.mem_singleton.mp h];exact TY)
    ·exact .inr (TX _ h)
   ·rintro (h | h)
    ·exact .inl (aaY _ h)
    ·rcases List.mem_cons.mp h with rfl | h
     ·exact .inl (UW _ TY)
     ·exact .inr h
def okS (ms:IN):Prop:=ms≠[]/\ms.length<=9/\ms.Pairwise (· < ·)/\∀ x∈ms,1<=x/\x<=9
theorem QM {ns ms:IN}(p:ms.Perm (ddI ns))(so:ms.Pairwise (·<=·))(h0:ns≠[])(h9:ns.length<=9)(hb:∀ x∈ns,1<=x/\x<=9):okS ms:=by
 rw[Lf] at p
 have mem:∀ x,x∈ms ↔ x∈ns:=fun x=>by rw[p.mem_iff,Ly];simp
 refine⟨fun z=>?_,?_,?_,fun x hx=>hb x ((mem x).mp hx)⟩
 ·cases ns with
  | nil=>exact h0 U
  | cons a r =>
   have:=(mem a).mpr TY
   rw[z] at this
   cases this
 ·have:=El ns []
  rw[p.length_eq]
  simp at this
  lia
 ·have nd:ms.Nodup:=p.nodup_iff.mpr (Ay ns [] (by simp))
  exact (so.and nd).imp fun h=>by lia
theorem Gs {ms:IN}(h:okS ms){p:Pl}(e:p.map (·.1)=ms)(hd:∀ x∈p,x.2.dep<=4):okP p:=by
 refine⟨fun z=>?_,?_,by rw[e];exact h.2.2.1,fun x hx=>?_⟩
 ·subst z
  exact h.1 e.symm
 ·have:=congrArg aae e
  rw[Tw] at this
  have:=h.2.1
  lia
 ·have hm:x.1∈ms:=by rw[← e];exact List.mem_map.mpr ⟨x,hx,U⟩
  exact⟨(h.2.2.2 _ hm).1,(h.2.2.2 _ hm).2,hd x hx⟩
abbrev jG:Stmt:=top 36
theorem bJ:aK ["_law_cell_here","_law_n","_law_one","_law_deep","_law_most","_law_drawn","_law_steps","_law_other_one","_law_found","_law_k","_law_step"] XE (aD jG):=gC
inductive BJ (vs:Lo)(H:Hp)(Q:VK)(e3:XK):Prop where
 | mk (c:Int) (n one:Nat) (deep:Int) (mo:Nat) (_:vs=[.int c,.int (n:Int),.int (one:Int),.int deep,.int (mo:Int)]) (_:1<=n) (_:n<=12) (_:one < n) (_:1<=deep) (_:deep<=3) (_:1<=mo) (_:mo<=9) (_:∀ (a:Addr) (p:Pl) (H':Hp),aG H H'->Bl n H' a p->Q (.ref a) H')
theorem vd (F:Fun K "_law_pledge" "_law_pledge" jG f fd) (B:Bt mg)
  (VT:Df P w K mg base "_law_draws" 1 Ya (jk K)) (WO:Df P w K mg base "_law_under" 1 YI tU) (VQ:Df P w K mg base "_law_crowd" 1 YV yc)
  (VZ:Df P w K mg base "_law_mine" 5 XE K6):dF P w K mg base CX0 6 f fd XE BJ:=by
 refine okA F bJ fun H Q E hr h=>?_
 obtain⟨c,n,one,deep,mo,rfl,n1,n12,hone,de1,de3,m1,m9,q⟩:=h
 refine⟨_,(aq (sTc 5 bJ.nd (aP VT hr (au (pv 0) (a1 (aX (au aj (au aj (au aj (au aj (au aj (a1 aj)))))))))))
 (aq (sT 6 bJ.nd (wR U U B.sorted_ U B.set_ (a1 (bh (L:=ZT) (F:=["_law_most","_law_drawn"]) (cap:=[4,5]) U (aV U U (by kernel_rfl)) (bM U B.range_ (a1 (aH bF aj (aH cI (pxL K (pv 5) aj) aj)))) (fun _ _ _ _ _=>(pgC 0)) (fun _ _ _ _ _=>bu) (fun _ _ _ _ _=>(aH bF aj (aH cI (pxL K (pv 2) (aH bF aj (pv 0))) (pv 1))))))))
 (aq (iz (aU dg (pxL K (pv 5) aj) aj) (aq (uI (L:=["_law_step"]) (F:=[]) (cap:=[]) (j:=6) bJ.nd U (Zz U) U (aV U U (by kernel_rfl)) (fX (aP VQ hr (au (pxL K (pv 5) aj) (v1 4)))) (fun _ _ _ _ _=>(pgC 0)) (fun _ _ _ _ _=>bu) (fun _ _ _ _ _=>(aH bF aj (pv 0))))
 (aO (iz (aU (r:=Rh K) (Kr hr.gU) (pv 6) (aX cY)) (aO (sT 6 bJ.nd (aX (v1 4)))) cQ))) cQ)
 (aq (ifR (PW.pt (wu (aU dg (pxL K (pv 5) aj) aj) (pJ (aU tZ (pv 1) aj)))) (bG (r:=fH K) bw U B.tuple_ bW (a1 (bh (L:=["_law_step"]) (F:=["_law_n","_law_one"]) (cap:=[1,2]) U (aV U U (by kernel_rfl)) (cB (pv 6)) (fun _ _ _ _ _=>(pgC 0)) (fun _ _ _ _ _=>bu) (fun _ _ _ _ _=>(bD (au (pv 0) (a1 (bD (au bK (au (aH cI (aH bF (pv 2) aj) (pv 1)) (v1 0))))))))))))
 (aq (iz (PW.pt (wu (aU dg (pxL K (pv 5) aj) aj) (pJ (aU tZ (pv 1) aj)))) (aq (sTc 7 bJ.nd (aH cI (aH bF (aH bF (pv 2) aj) (aH cI (pxL K (pv 5) aj) (aH oV (pv 1) aj))) (pv 1)))
 (sR (bG (r:=fH K) bw U B.tuple_ bW (a1 (bh (L:=["_law_step"]) (F:=["_law_other_one"]) (cap:=[7]) U (aV U U (by kernel_rfl)) (cB (pv 6)) (fun _ _ _ _ _=>(pgC 0)) (fun _ _ _ _ _=>bu) (fun _ _ _ _ _=>(bD (au (pv 0) (a1 (bD (au bK (au (pv 1) (a1 (aL (qX U) U B.max_ oF (au aj (a1 (aH oV (pv 0) aj))))))))))))))))) cQ)
 (aq (sT 8 bJ.nd (aX cY))
 (aq (cW U3 U (Ox U B.enumerate_ (v1 6)) (du (K:=K) 2 U U (aQ (pgN 9 bJ.nd) (aQ (pgN 10 bJ.nd) dw))) (aO (cu (jF Uz Vb Va bI (pv 8) (a1 (bD (au (pv 10) (a1 (aP VZ hr (au (aP WO hr (v2 0 9)) (au (pv 1) (au (pv 2) (v2 3 4)))))))))))))
 (sR (bG (r:=fH K) bw U B.tuple_ bW (v1 8)))))))))),?_⟩
 refine⟨_,U,smN 6,fun p1 h1=>?_⟩
 generalize eH1:upd H p1 _=H1
 obtain⟨g1,e1⟩:=aC eH1 h1
 refine⟨c,p1,[7,9,9,9,12,512],U,sqL e1,by decide,by decide,fun p2 h2=>?_⟩
 generalize eH2:upd H1 p2 _=H2
 obtain⟨g2,e2⟩:=aC eH2 h2
 have hps:∀ q∈([7,9,9,9,12,512]:IN),0 < q:=by decide
 obtain⟨d0,k0,b0⟩:=bA (c:=jq c) (i:=0) hps U
 obtain⟨d1,k1,b1⟩:=bA (c:=jq c) (i:=1) hps U
 obtain⟨d2,k2,b2⟩:=bA (c:=jq c) (i:=2) hps U
 obtain⟨d3,k3,b3⟩:=bA (c:=jq c) (i:=3) hps U
 obtain⟨d4,k4,b4⟩:=bA (c:=jq c) (i:=4) hps U
 obtain⟨d5,k5,b5⟩:=bA (c:=jq c) (i:=5) hps U
 have a0:=cV (fG k0)
 have a4:=cV (fG k4)
 have a5:=cV (fG k5)
 have kk:∀ k:Nat,k < 3->∃ d,(vB (jq c) [7,9,9,9,12,512])[1+k]? = some d:=fun k hk=>by
  match k,hk with
  | 0,_=>exact⟨_,k1⟩
  | 1,_=>exact⟨_,k2⟩
  | 2,_=>exact⟨_,k3⟩
 change _=some (HO.lst ((vB (jq c) [7,9,9,9,12,512]).map V.int)) at e2
 generalize vB (jq c) [7,9,9,9,12,512]=ds at *
 have gH:aG H H2:=g1.trans g2
 have u1:0<=d0 % 3:=Vp _ (by lia)
 have u2:d0 % 3 < 3:=U7 _ (by lia)
 refine⟨_,U,p2,_,_,_,U,U,sqL e2,a0,_,_,U,U,(by show (0:Int) < 3;decide),_,_,U,U,_,U,by lia,by lia,fun D hD=>dH (lo:=0) (n:=(1+d0 % 3).toNat)
  (fun i zs σ' H3=>(∃ u,σ'=[u,some (.int (mo:Int)),oR p2])/\aG H2 H3/\H3 D=some (.lst zs)/\∃ ns:IN,zs=ns.map V.int/\ns.length=i/\∀ x∈ns,1<=x/\x<=9)
  ⟨⟨_,U⟩,aA hD _,aa,[],U,U,by simp⟩ (fun i zs σ' H3 _ h=>h.2.2.1) ?_ ?_⟩
 ·rintro i zs σ' H3 hi ⟨⟨u,rfl⟩,s3,eD,ns,e3,ln,hb⟩
  obtain⟨dk,hk⟩:=kk i (by lia)
  have ak:atI (ds.map V.int) (1+(0+(i:Int)))=some (.int dk):=by
   rw[show (1:Int)+(0+(i:Int))=((1+i:Nat):Int) by lia]
   exact cV (fG hk)
  have v1:0<=dk % (mo:Int):=Vp _ (by lia)
  have v2:dk % (mo:Int) < (mo:Int):=U7 _ (by lia)
  refine gT ?_
  refine⟨_,U,_,U,_,_,U,U,p2,_,_,_,U,U,sqL (s3 _ _ e2),ak,_,U,_,_,U,U,(by show (0:Int) < (mo:Int);lia),_,_,U,U,eD,?_,⟨_,U⟩,aF s3 hD _,aa,ns++[1+dk % (mo:Int)],?_,?_,?_⟩
  ·rw[e3,Tw]
   exact aB (by lia)
  ·rw[e3,T9]
   rfl
  ·rw[Uh,ln]
   rfl
  ·intro x hx
   rcases List.mem_append.mp hx with h | h
   ·exact hb x h
   ·rw[List.mem_singleton.mp h]
    lia
 ·rintro zs σ' H3 ⟨_,s3,eD,ns,e3,ln,hb⟩
  have ln3:1<=ns.length/\ns.length<=3:=by lia
  have dl:(ddI ns).length<=ns.length:=by
   have:=El ns []
   rw[Lf]
   simpa using this
  refine⟨D,ns,U,sqL (by rw[eD,e3]),by lia,by lia,fun ms pm so l hl=>?_⟩
  have okm:okS ms:=QM pm so (fun z=>by rw[z] at ln3;simp at ln3) (by lia) hb
  generalize eH4:upd H3 l _=H4
  obtain⟨g4,e4⟩:=aC eH4 hl
  have s4:aG H2 H4:=s3.trans g4
  refine gN ?_
  dsimp only
  show G6 (FT _ _ _) _ _ _ _
  refine lO (fun σ H5=>∃ (l:Addr) (ms:IN),σ=[oI c,some (.int (n:Int)),some (.int (one:Int)),oI deep,some (.int (mo:Int)),oR p2,oR l,none,none,none,none]/\aG H2 H5/\H5 l=some (.lst (ms.map V.int))/\okS ms) ?rest (fun _ R=>?_)
  case rest =>
   clear e4 hl so pm okm eH4 g4 s4 H4 l ms
   rintro σ H5 ⟨l,ms,rfl,s5,e5,okm⟩
   have l9:=okm.2.1
   have e2':=s5 _ _ e2
   have sH5:aG H H5:=gH.trans s5
   show G6 (FT _ _ _) _ _ _ _
   refine lO (fun σ H6=>σ=[oI c,some (.int (n:Int)),some (.int (one:Int)),oI deep,some (.int (mo:Int)),oR p2,oR l,none,none,none,none]/\H5=H6) ?rest2 (fun _ R=>?_)
   case rest2 =>
    rintro σ H6 ⟨rfl,rfl⟩
    show G6 (FT _ _ _) _ _ _ _
    refine lO (fun σ H6=>σ=[oI c,some (.int (n:Int)),some (.int (one:Int)),oI deep,some (.int (mo:Int)),oR p2,oR l,none,none,none,none]/\H5=H6) ?rest3 (fun _ R=>?_)
    case rest3 =>
     rintro σ H6 ⟨rfl,rfl⟩
     refine⟨small (Uw _),fun r hr0=>?_⟩
     generalize eH6:upd H5 r _=H6
     obtain⟨g6,e6⟩:=aC eH6 hr0
     refine⟨_,U,l,_,U,g6 _ _ e5,Ka (K:=K) (a:=l) (xs:=ms.map V.int) (fun i σ H7=>(∃ u v,σ=[oI c,some (.int (n:Int)),some (.int (one:Int)),oI deep,some (.int (mo:Int)),oR p2,oR l,none,oR r,u,v])/\aG H5 H7 ∧
      ∃ (vs:Lo) (p:Pl),H7 r=some (.lst vs)/\fJ n H7 vs p/\p.map (·.1)=ms.take i/\∀ x∈p,x.2.dep<=4) ⟨⟨_,_,U⟩,g6,[],[],e6,.nil,U,by simp⟩ (fun i σ H7 _ h=>sqL (h.2.1 _ _ e5)) ?_ ?_⟩
     ·rintro i x pp σ H7 hx hpp ⟨⟨u,v,rfl⟩,s7,vs,p,er,rp,ep,hd⟩
      obtain⟨st,hst,rfl⟩:=int_at hx
      have hi:i < ms.length:=(geS hst).1
      generalize eH8:upd H7 pp _=H8
      obtain⟨g8,e8⟩:=aC eH8 hpp
      refine⟨pp,_,U,sqT e8,U,_,_,U,_,_,U,U,_,U,.inl ⟨U,_,sqL (g8 _ _ er)⟩,_,U,_,U,_,U,c,i,U,by lia,_,U,_,U,_,U,_,U,Mx c i,n,one,deep,mo,U,n1,n12,hone,de1,de3,m1,m9,fun v' t H9 s9 rt td=>?_⟩
      refine⟨smN 2,fun pa ha=>?_⟩
      generalize eHa:upd H9 pa _=Ha
      obtain⟨ga,ea⟩:=aC eHa ha
      have s8a:aG H7 Ha:=g8.trans (s9.trans ga)
      have lv:=rp.length
      have lp:p.length<=ms.length:=by
       have:=congrArg aae ep
       rw[Tw,Uj] at this
       lia
      have tk:=bO (zs':=vs++[.ref pa]) (s8a _ _ er)
      refine⟨r,_,_,U,U,s8a _ _ er,aB (by lia),⟨_,_,U⟩,aF (s7.trans s8a) hr0 _,vs++[.ref pa],p++[(st,t)],aa,?_,?_,?_⟩
      ·exact fJ.snoc (tk _ _ ea) ((rt.mono ga).aY tk) ((rp.aY fun a xs q=>s8a a _ q).aY tk)
      ·rw[T9,ep,Ux,hst]
       rfl
      ·intro x hx
       rcases List.mem_append.mp hx with h | h
       ·exact hd x h
       ·rw[List.mem_singleton.mp h]
        show t.dep<=4
        lia
     ·rintro σ H7 ⟨⟨u,v,rfl⟩,s7,vs,p,er,rp,ep,hd⟩
      rw[Tw,Ul] at ep
      refine⟨_,U,r,_,U,.inl ⟨sqL er,fun pa ha=>?_⟩⟩
      have sn:=aA ha (.tup vs)
      exact q pa p _ (sH5.trans (s7.trans sn)) ⟨Gs okm ep hd,vs,aa,rp.aY fun a xs q=>sn a _ q⟩
    ·refine uq (decide (V.int d0=V.int 5)) (decide (1 < (n:Int))) (fun H6=>H5=H6) (fun Q' hQ=>?_) (fun H6 e Q' hQ=>?_) (fun H6 e c1 c2=>?_) (fun H6 e _=>R _ _ ⟨U,e⟩)
     ·exact⟨_,U,p2,_,_,_,U,U,sqL e2',a0,U,_,U,hQ _ U⟩
     ·subst e
      exact⟨_,U,_,_,U,U,_,U,hQ⟩
     ·subst e
      have c2:1 < (n:Int):=of_decide_eq_true c2
      have w1:0<=((one:Int)+1+d4 % ((n:Int) - 1)) % (n:Int):=Vp _ (by lia)
      have w2:((one:Int)+1+d4 % ((n:Int) - 1)) % (n:Int) < (n:Int):=U7 _ (by lia)
      obtain⟨j,hj⟩:=Y6 w1
      refine⟨_,U,_,_,U,U,_,U,p2,_,_,_,U,U,sqL e2',a4,_,U,_,_,U,U,_,_,U,U,(by show (0:Int) < (n:Int) - 1;lia),_,_,U,U,_,U,_,_,U,U,(by show (0:Int) < (n:Int);lia),?_⟩
      refine gN ?_
      have es:(fun i j:Int=>V.int (i % j)) ((one:Int)+1+d4 % ((n:Int) - 1)) (n:Int)=V.int (j:Int):=by
       show V.int (((one:Int)+1+d4 % ((n:Int) - 1)) % (n:Int))=_
       rw[hj]
      refine⟨_,U,l,U,⟨_,sqL e5⟩,fun D hD=>bV (K:=K) (a:=l) (xs:=ms.map V.int) (fun i zs σ' H7=>(∃ u,σ'=[u,some (.int (j:Int))])/\aG H5 H7/\H7 D=some (.lst zs) ∧
       fJ n H7 zs ((ms.take i).map fun st=>(st,Tm.gives j (if st - 1 > 1 then st - 1 else 1)))) ⟨⟨none,?_⟩,aA hD _,aa,.nil⟩ (fun i zs σ' H7 _ h=>⟨sqL (h.2.1 _ _ e5),h.2.2.1⟩) ?_ ?_⟩
      ·rw[← es]
       rfl
      ·rintro i zs x σ' H7 hx ⟨⟨u,rfl⟩,s7,er,rp⟩
       obtain⟨st,hst,rfl⟩:=int_at hx
       have hb:=okm.2.2.2 st (Ud hst)
       have lv:=rp.length
       rw[Tw,Uj] at lv
       refine gT ?_
       refine⟨_,U,_,U,_,U,_,_,U,U,_,_,U,smN 3,fun pa ha=>?_⟩
       generalize eHa:upd H7 pa _=Ha
       obtain⟨ga,ea⟩:=aC eHa ha
       refine⟨smN 2,fun pb hb'=>?_⟩
       generalize eHb:upd Ha pb _=Hb
       obtain⟨gb,eb⟩:=aC eHb hb'
       have s7b:aG H7 Hb:=ga.trans gb
       have tk:=bO (zs':=zs++[.ref pb]) (s7b _ _ er)
       refine⟨s7b _ _ er,aB (by lia),⟨_,U⟩,aF (s7.trans s7b) hD _,aa,?_⟩
       rw[take_snoc (fun st=>(st,Tm.gives j (if st - 1 > 1 then st - 1 else 1))) hst]
       exact fJ.snoc (tk _ _ eb) (.gives (tk _ _ (gb _ _ ea)) (by lia) (by split <;> lia) (by split <;> lia)) ((rp.aY fun a xs q=>s7b a _ q).aY tk)
      ·rintro zs σ' H7 ⟨_,s7,er,rp⟩
       rw[Tw,Ul] at rp
       refine⟨D,_,U,.inl ⟨sqL er,fun pa ha=>?_⟩⟩
       have sn:=aA ha (.tup zs)
       refine q pa _ _ (sH5.trans (s7.trans sn)) ⟨Gs okm ?_ ?_,zs,aa,rp.aY fun a xs q=>sn a _ q⟩
       ·rw[W4]
        exact List.map_id' ms
       ·intro x hx
        obtain⟨st,_,rfl⟩:=List.mem_map.mp hx
        show (1:Nat)<=4
        decide
   ·refine uq (decide (V.int d0=V.int 6)) (decide (1 < (n:Int))) (fun H6=>H5=H6) (fun Q' hQ=>?_) (fun H6 e Q' hQ=>?_) (fun H6 e c1 c2=>?_) (fun H6 e _=>R _ _ ⟨U,e⟩)
    ·exact⟨_,U,p2,_,_,_,U,U,sqL e2',a0,U,_,U,hQ _ U⟩
    ·subst e
     exact⟨_,U,_,_,U,U,_,U,hQ⟩
    ·subst e
     have w1:0<=((one:Int)+1) % (n:Int):=Vp _ (by lia)
     have w2:((one:Int)+1) % (n:Int) < (n:Int):=U7 _ (by lia)
     obtain⟨j,hj⟩:=Y6 w1
     refine⟨_,U,l,U,⟨_,sqL e5⟩,fun D hD=>bV (K:=K) (a:=l) (xs:=ms.map V.int) (fun i zs σ' H7=>(∃ u,σ'=[u,some (.int (n:Int)),some (.int (one:Int))])/\aG H5 H7/\H7 D=some (.lst zs) ∧
      fJ n H7 zs ((ms.take i).map fun st=>(st,Tm.gives j st))) ⟨⟨_,U⟩,aA hD _,aa,.nil⟩ (fun i zs σ' H7 _ h=>⟨sqL (h.2.1 _ _ e5),h.2.2.1⟩) ?_ ?_⟩
     ·rintro i zs x σ' H7 hx ⟨⟨u,rfl⟩,s7,er,rp⟩
      obtain⟨st,hst,rfl⟩:=int_at hx
      have hb:=okm.2.2.2 st (Ud hst)
      have lv:=rp.length
      rw[Tw,Uj] at lv
      refine gT ?_
      refine⟨_,U,_,U,_,_,U,U,_,U,_,_,U,U,(by show (0:Int) < (n:Int);lia),_,U,smN 3,fun pa ha=>?_⟩
      generalize eHa:upd H7 pa _=Ha
      obtain⟨ga,ea⟩:=aC eHa ha
      have ea:Ha pa=some (.tup [.str "gives",vN j,.int st]):=by
       rw[ea]
       show some (HO.tup [V.str "gives",V.int (((one:Int)+1) % (n:Int)),V.int st])=some (HO.tup [V.str "gives",V.int (j:Int),V.int st])
       rw[hj]
      refine⟨smN 2,fun pb hb'=>?_⟩
      generalize eHb:upd Ha pb _=Hb
      obtain⟨gb,eb⟩:=aC eHb hb'
      have s7b:aG H7 Hb:=ga.trans gb
      have tk:=bO (zs':=zs++[.ref pb]) (s7b _ _ er)
      refine⟨s7b _ _ er,aB (by lia),⟨_,U⟩,aF (s7.trans s7b) hD _,aa,?_⟩
      rw[take_snoc (fun st=>(st,Tm.gives j st)) hst]
      exact fJ.snoc (tk _ _ eb) (.gives (tk _ _ (gb _ _ ea)) (by lia) (by lia) (by lia)) ((rp.aY fun a xs q=>s7b a _ q).aY tk)
     ·rintro zs σ' H7 ⟨_,s7,er,rp⟩
      rw[Tw,Ul] at rp
      refine⟨D,_,U,.inl ⟨sqL er,fun pa ha=>?_⟩⟩
      have sn:=aA ha (.tup zs)
      refine q pa _ _ (sH5.trans (s7.trans sn)) ⟨Gs okm ?_ ?_,zs,aa,rp.aY fun a xs q=>sn a _ q⟩
      ·rw[W4]
       exact List.map_id' ms
      ·intro x hx
       obtain⟨st,_,rfl⟩:=List.mem_map.mp hx
       show (1:Nat)<=4
       decide
  ·refine⟨_,U,p2,_,_,_,U,U,sqL (s4 _ _ e2),a0,U,_,U,?_⟩
   refine DK (fun _=>?_) (fun _=>R _ _ ⟨l,ms,U,s4,e4,okm⟩)
   refine⟨_,U,p2,_,_,_,U,U,sqL (s4 _ _ e2),a5,_,U,d5,mo,U,by lia,fun cs r3 H5 hc hp hl5 s5 f5 e5=>?_⟩
   refine⟨r3,U,⟨_,sqT e5⟩,fun D5 hD5=>dW (K:=K) (a:=r3) (xs:=cs.map vN) (fun i zs σ' H6=>(∃ u,σ'=[u])/\zs=((cs.take i).map fun j:Nat=>(1:Int)+(j:Int)).map V.int/\aG H5 H6/\H6 D5=some (.lst zs))
    ⟨⟨_,U⟩,U,aA hD5 _,aa⟩ (fun i zs σ' H6 _ h=>⟨sqT (h.2.2.1 _ _ e5),h.2.2.2⟩) ?_ ?_⟩
   ·rintro i zs x σ' H6 hx ⟨⟨u,rfl⟩,e6,s6,eD6⟩
    obtain⟨j,hj,rfl⟩:=pM hx
    refine gT ?_
    refine⟨_,U,_,_,U,U,eD6,?_,⟨_,U⟩,?_,aF s6 hD5 _,aa⟩
    ·rw[e6,Tw,Tw,Uj]
     exact aB (by lia)
    ·rw[e6,take_snoc (fun j:Nat=>(1:Int)+(j:Int)) hj,T9]
     rfl
   ·rintro zs σ' H6 ⟨_,e6,s6,eD6⟩
    rw[Tw,Ul] at e6
    rw[e6] at eD6
    have s46:aG H2 H6:=s4.trans (s5.trans s6)
    refine⟨_,U,smN 0,fun p7 h7=>?_⟩
    have g7:aG H6 (upd H6 p7 (.lst [])):=aA h7 _
    refine⟨D5,p7,_,U,U,sqL (g7 _ _ eD6),sqL aa,_,U,?_⟩
    refine DK (fun ce=>?_) (fun ce=>?_)
    ·refine⟨_,U,smN 1,fun p8 h8=>?_⟩
     refine R _ _ ⟨p8,[(mo:Int)],U,s46.trans (g7.trans (aA h8 _)),aa,by simp,by show 1<=9;decide,by simp,?_⟩
     intro x hx
     rw[List.mem_singleton.mp hx]
     lia
    ·refine R _ _ ⟨D5,cs.map fun j:Nat=>(1:Int)+(j:Int),U,s46.trans g7,g7 _ _ eD6,?_,?_,?_,?_⟩
     ·intro z
      apply ce
      rw[z]
      rfl
     ·rw[Tw]
      lia
     ·rw[Yp]
      exact hp.imp fun h=>by lia
     ·intro x hx
      obtain⟨j,hj,rfl⟩:=List.mem_map.mp hx
      have:=hc j hj
      lia
theorem jY {t u:TS}{D:Ends}{σ:St}{H:Hp}(P:St->Hp->Prop)(h2:∀ σ H,P σ H->u D σ H)(h1:∀ N:St->Hp->Prop,(∀ σ H,P σ H->N σ H)->t { D with nx:=N } σ H):G6 t u D σ H:=h1 (u D) h2
theorem jD {t u:TS}{D:Ends}{σ:St}{H:Hp}(P:St->Hp->Prop)(h1:∀ N:St->Hp->Prop,(∀ σ H,P σ H->N σ H)->t { D with nx:=N } σ H)(h2:∀ σ H,P σ H->u D σ H):G6 t u D σ H:=h1 (u D) h2
abbrev nT:Stmt:=top 37
theorem gh:aK ["_law_script","_law_start","_law_n","_law_most","_law_book_here","_law_one","_law_cell_here","_law_many"] XT (aD nT):=gC
structure ScB (n:Nat)(H H':Hp)(b:Addr)(us:Lo)(bk:List (List Pl)):Prop where
 fb:H b=none
 hb:H' b=some (.lst us)
 bs:cH n H' us bk
 lb:bk.length=n
 nd:us.Nodup
 nb:∀ u∈us,u≠.ref b
 fr:∀ u∈us,∃ c,u = .ref c/\H c=none
 few:∀ ps∈bk,ps.length<=2
theorem cH.isl {n:Nat}{H:Hp}:∀ {us:Lo} {bs:List (List Pl)},cH n H us bs->∀ u∈us,∃ c ys,u = .ref c/\H c=some (.lst ys)
 | _,_,.cons h _ _ r,u,hu=>by
  rcases List.mem_cons.mp hu with z | z
  ·exact⟨_,_,z,h⟩
  ·exact cH.isl r u z
inductive Lg (K:UT)(vs:Lo)(H:Hp)(Q:VK)(e3:XK):Prop where
 | mk (a:Addr) (ss:IN) (st n mo:Nat) (_:vs=[.ref a,.int (st:Int),.int (n:Int),.int (mo:Int)]) (_:SqL K H a (ss.map V.int)) (_:st<=100) (_:1<=n) (_:n<=12) (_:1<=mo) (_:mo<=9) (_:∀ (b:Addr) (us:Lo) (bk:List (List Pl)) (H':Hp),aG H H'->ScB n H H' b us bk->Q (.ref b) H')
theorem yW (F:Fun K "_law_book" "_law_book" nT f fd) (B:Bt mg)
  (VI:Df P w K mg base "_law_cell" 1 YU (Gg K)) (VT:Df P w K mg base "_law_draws" 1 Ya (jk K)) (WO:Df P w K mg base "_law_under" 1 YI tU)
  (WB:Df P w K mg base "_law_pledge" 6 XE BJ):dF P w K mg base CX0 7 f fd XT (Lg K):=by
 refine okA F gh fun H Q E hr h=>?_
 obtain⟨a,ss,st,n,mo,rfl,hS,hst,n1,n12,m1,m9,q⟩:=h
 refine⟨_,(aq (sT 4 gh.nd (aX cY))
 (aq (cW U3 U (bM U B.range_ (v1 2)) (qK (i:=5) gh.nd U (Zm U)) (aq (sTc 6 gh.nd (aH bF (aP VI hr (au (pv 0) (a1 (aH bF (pv 1) (pv 5))))) (aH gY aj (pv 5))))
 (aq (sT 7 gh.nd (pxL K (aX (cL aj (cL aj (cL aj (cL aj (cL aj (cL aj (cL aj cY)))))))) (pxL K (aP VT hr (au (aH bF (pv 6) aj) (a1 (aX (a1 aj))))) aj)))
 (aO (cu (jF Uz Vb Va bI (pv 4) (a1 (bh (L:=ZT) (F:=["_law_n","_law_one","_law_most","_law_cell_here"]) (cap:=[2,5,3,6]) U (aV U U (by kernel_rfl)) (bM U B.range_ (v1 7)) (fun _ _ _ _ _=>(pgC 0)) (fun _ _ _ _ _=>bu) (fun _ _ _ _ _=>(aP WB hr (au (aP WO hr (au (pv 4) (a1 (aH gY aj (pv 0))))) (au (pv 1) (au (pv 2) (au aj (v1 3)))))))))))))))
 (sR (pv 4)))),?_⟩
 refine⟨small (Uw _),fun r hr0=>?_⟩
 generalize eH1:upd H r _=H1
 obtain⟨g1,e1⟩:=aC eH1 hr0
 have en:((n:Int)).toNat=n:=UL n
 refine⟨_,U,_,U,by lia,by lia,fc (lo:=0) (n:=((n:Int)).toNat) (fun i σ H2=>(∃ u v x,σ=[oR a,some (.int (st:Int)),some (.int (n:Int)),some (.int (mo:Int)),oR r,u,v,x])/\aG H H2/\∃ (us:Lo) (bk:List (List Pl)),H2 r=some (.lst us)/\cH n H2 us bk/\us.length=i/\(∀ u∈us,u≠.ref r)/\us.Nodup/\(∀ u∈us,∃ c,u = .ref c/\H c=none)/\∀ ps∈bk,ps.length<=2)
  ⟨⟨_,_,_,U⟩,g1,[],[],e1,.nil,U,by simp,.nil,by simp,by simp⟩ ?_ ?_⟩
 ·rintro i σ H2 hi ⟨⟨u,v,x,rfl⟩,sm,us,bk,er,rb,lu,hur,ndu,fru,few⟩
  have hi12:i < n:=by lia
  have e1':(st:Int)+(0+(i:Int))=((st+i:Nat):Int):=by lia
  refine⟨_,U,_,U,_,U,_,_,U,U,a,ss,st+i,?_,yX sm hS,_,U,_,_,U,U,.inl ⟨by decide,by decide⟩,_,_,U,U,?_⟩
  ·show[V.ref a,V.int ((st:Int)+(0+(i:Int)))]=_
   rw[e1']
  refine gN ?_
  dsimp only
  generalize (ss.getD (st+i) 0+31 * (0+(i:Int)))=c
  refine⟨smN 7,fun p3 h3=>?_⟩
  generalize eH3:upd H2 p3 _=H3
  obtain⟨g3,e3⟩:=aC eH3 h3
  refine⟨_,U,_,_,U,U,smN 1,fun p4 h4=>?_⟩
  generalize eH4:upd H3 p4 _=H4
  obtain⟨g4,e4⟩:=aC eH4 h4
  refine⟨c+5,p4,[7],U,sqL e4,by decide,by decide,fun p5 h5=>?_⟩
  generalize eH5:upd H4 p5 _=H5
  obtain⟨g5,e5⟩:=aC eH5 h5
  obtain⟨d0,k0,b0⟩:=bA (c:=jq (c+5)) (i:=0) (ps:=[7]) (by decide) U
  have a0:=cV (fG k0)
  obtain⟨many,hmany,hm2⟩:∃ many:Nat,atI ([1,1,2,1,0,1,2].map V.int) d0=some (.int (many:Int))/\many<=2:=by
   rcases (show d0=0∨d0=1∨d0=2∨d0=3∨d0=4∨d0=5∨d0=6 by lia) with z | z | z | z | z | z | z
   ·exact⟨1,by rw[z];rfl,by decide⟩
   ·exact⟨1,by rw[z];rfl,by decide⟩
   ·exact⟨2,by rw[z];rfl,by decide⟩
   ·exact⟨1,by rw[z];rfl,by decide⟩
   ·exact⟨0,by rw[z];rfl,by decide⟩
   ·exact⟨1,by rw[z];rfl,by decide⟩
   ·exact⟨2,by rw[z];rfl,by decide⟩
  refine⟨p5,_,_,_,U,U,sqL e5,a0,p3,_,_,_,U,U,sqL (g5 _ _ (g4 _ _ e3)),hmany,?_⟩
  have s5:aG H2 H5:=g3.trans (g4.trans g5)
  have emn:((many:Int)).toNat=many:=UL many
  refine⟨_,U,.inl ⟨U,_,sqL (s5 _ _ er)⟩,?_⟩
  refine⟨_,U,_,U,by lia,by lia,fun D hD=>dH (lo:=0) (n:=((many:Int)).toNat) (fun j zs σ' H6=>(∃ u,σ'=[u,some (.int (n:Int)),some (.int (0+(i:Int))),some (.int (mo:Int)),oI c])/\aG H5 H6/\H6 D=some (.lst zs)/\∃ (as:II) (ps:List Pl),zs=as.map V.ref/\as.length=j/\cJ n H6 as ps)
   ⟨⟨_,U⟩,aA hD _,aa,[],[],U,U,.nil⟩ (fun j zs σ' H6 _ h=>h.2.2.1) ?_ ?_⟩
  ·rintro j zs σ' H6 hj ⟨⟨u,rfl⟩,s6,eD,as,ps,ez,la,rp⟩
   have e7:(7:Int) * (0+(j:Int))=((7 * j:Nat):Int):=by lia
   refine gT ?_
   refine⟨_,U,_,U,_,_,U,U,.inl ⟨by decide,by decide⟩,c,7 * j,?_,by lia,_,U,_,U,_,U,Mx c (7 * j),n,i,3,mo,?_,n1,n12,hi12,by decide,by decide,m1,m9,fun pa p H7 s7 rpl=>?_⟩
   ·show[V.int c,V.int (7 * (0+(j:Int)))]=_
    rw[e7]
   ·show[V.int (Mx c (7 * j)),V.int (n:Int),V.int (0+(i:Int)),V.int 3,V.int (mo:Int)]=_
    rw[Wt]
   ·have tk:=bO (zs':=zs++[.ref pa]) (s7 _ _ eD)
    refine⟨s7 _ _ eD,?_,⟨_,U⟩,aF (s6.trans s7) hD _,aa,as++[pa],ps++[p],?_,?_,?_⟩
    ·rw[ez,Tw]
     exact aB (by lia)
    ·rw[ez,T9]
     rfl
    ·rw[Uh,la]
     rfl
    ·exact cJ.snoc (rpl.aY tk) ((rp.aY fun a xs q=>s7 a _ q).aY tk)
  ·rintro zs σ' H6 ⟨_,s6,eD,as,ps,ez,la,rp⟩
   rw[emn] at la
   rw[ez] at eD
   have s26:aG H2 H6:=s5.trans s6
   have er6:=s26 _ _ er
   have hDr:D≠r:=fun z=>by
    rw[z] at hD
    have:=s5 _ _ er
    rw[this] at hD
    cases hD
   refine⟨r,_,_,U,U,er6,aB (by lia),⟨_,_,_,U⟩,aF (sm.trans s26) hr0 _,us++[.ref D],bk++[ps],aa,?_,?_,?_,?_,?_,?_⟩
   ·have keepL:∀ {vs:Lo} {bs:List (List Pl)},(∀ u∈vs,u≠.ref r)->cH n H6 vs bs->cH n (upd H6 r (.lst (us++[.ref D]))) vs bs:=by
     intro vs bs hne hb
     induction hb with
     | nil=>exact .nil
     | cons h l p _ ih =>
      refine .cons ?_ l (p.aY (bO er6)) (ih fun u hu=>hne u (TX _ hu))
      rw[aR (fun z=>hne _ TY (by rw[z]))]
      exact h
    have b6:=cH.snoc eD (by lia) rp (rb.mono s26)
    refine keepL (fun u hu=>?_) b6
    rcases List.mem_append.mp hu with h | h
    ·exact hur u h
    ·rw[List.mem_singleton.mp h]
     exact fun z=>hDr (by cases z;rfl)
   ·rw[Uh,lu]
    rfl
   ·intro u hu
    rcases List.mem_append.mp hu with h | h
    ·exact hur u h
    ·rw[List.mem_singleton.mp h]
     exact fun z=>hDr (by cases z;rfl)
   ·rw[Zb]
    refine⟨ndu,by simp,fun u hu v hv z=>?_⟩
    obtain⟨c',ys,e',l'⟩:=rb.isl u hu
    rw[z,List.mem_singleton.mp hv] at e'
    cases e'
    rw[s5 _ _ l'] at hD
    cases hD
   ·intro u hu
    rcases List.mem_append.mp hu with h | h
    ·exact fru u h
    ·exact⟨D,List.mem_singleton.mp h,(sm.trans s5).free hD⟩
   ·intro qs hq
    rcases List.mem_append.mp hq with h | h
    ·exact few qs h
    ·rw[List.mem_singleton.mp h,← rp.length]
     lia
 ·rintro σ H2 ⟨⟨u,v,x,rfl⟩,sm,us,bk,er,rb,lu,hur,ndu,fru,few⟩
  rw[en] at lu
  have lb:=rb.length
  exact⟨_,U,q r us bk H2 sm ⟨hr0,er,rb,by lia,ndu,hur,fru,few⟩⟩
theorem Rr {K:UT}{m z:Int}{n i:Nat}{σ:St}{H:Hp}{Q:V->Hp->Prop}(hz:z=(n:Int))(n1:1<=n)(n2:n<=1000)(hσ:σ[i]? = some (some (.int z)))(hQ:∀ r H',aG H H'->H' r=some (.tup ((Ur n m).map V.int))->Q (.ref r) H') :
  tOp (N7 K) (O1 (dI (tC (.int m)) uz)) (lF i) σ H Q:=by
 refine⟨smN 1,fun pa ha=>?_⟩
 generalize eHa:upd H pa _=Ha
 obtain⟨ga,ea⟩:=aC eHa ha
 have hN:z.toNat=n:=by lia
 refine⟨_,hσ,pa,_,_,U,U,sqT ea,by simp,by lia,by lia,?_,fun h1=>?_,fun _ pb hb=>?_⟩
 ·show 1 * z.toNat<=sizeLine
  exact small (by lia)
 ·refine hQ pa Ha ga ?_
  rw[ea,show n=1 by lia]
  rfl
 ·refine hQ pb _ (ga.trans (aA hb _)) ?_
  rw[aa,hN,BL]
theorem MK {c:Int}{n:Nat}{m:Int}(hm:0<=m):∀ x∈PB c n m,0<=x/\x<=m:=fun x hx=>by
 obtain⟨i,hi,e⟩:=XH hx
 rw[lR] at hi
 obtain⟨v,hv,b1,b2⟩:=Ke (c:=c) hm hi
 rw[TJ (by rw[lR];exact hi),e] at hv
 cases hv
 exact⟨b1,b2⟩
abbrev lK:Stmt:=top 39
theorem dB:aK ["_law_script","_law_drawn","_law_n","_law_most","_law_floor"] ZN (aD lK):=gC
theorem ScB.mono {n:Nat}{H H0 H' H2:Hp}{b:Addr}{us:Lo}{bk:List (List Pl)}(s0:aG H H0)(s:aG H' H2)(x:ScB n H0 H' b us bk):ScB n H H2 b us bk :=
 ⟨s0.free x.fb,s _ _ x.hb,x.bs.mono s,x.lb,x.nd,x.nb,fun u hu=>(x.fr u hu).elim fun c ⟨e,h⟩=>⟨c,e,s0.free h⟩,x.few⟩
inductive Hj (K:UT)(vs:Lo)(H:Hp)(Q:VK)(e3:XK):Prop where
 | mk (a:Addr) (ss:IN) (_:vs=[.ref a]) (_:SqL K H a (ss.map V.int)) (_:∀ (r:Addr) (n mo:Nat) (b f:Addr) (us:Lo) (bk:List (List Pl)) (fl:IN) (H':Hp),aG H H'->H' r=some (.tup [.int (n:Int),.int (mo:Int),.ref b,.ref f])->1<=n->n<=6->ScB n H H' b us bk->H' f=some (.tup (fl.map V.int))->okG n fl->Q (.ref r) H')
theorem v9 (F:Fun K "_law_scene" "_law_scene" lK f fd) (B:Bt mg)
  (VI:Df P w K mg base "_law_cell" 1 YU (Gg K)) (VT:Df P w K mg base "_law_draws" 1 Ya (jk K)) (VU:Df P w K mg base "_law_giving" 2 XV Ax)
  (VE:Df P w K mg base "_law_book" 7 XT (Lg K)):dF P w K mg base CX0 8 f fd ZN (Hj K):=by
 refine okA F dB fun H Q E hr h=>?_
 obtain⟨a,ss,rfl,hS,q⟩:=h
 refine' ⟨_,?hp,?hz⟩
 case hp =>
  refine' aq ?s0 ?r0
  case s0=>exact (sT 1 dB.nd (aP VT hr (au (aP VI hr (au (pv 0) (a1 aj))) (a1 (aX (au aj (au aj (a1 aj))))))))
  case r0 =>
   refine' aq ?s1 ?r1
   case s1 =>
    refine' Fq ?e ?t ?hs ?hw
    case hs=>rfl
    case hw=>rfl
    case t=>exact (du (K:=K) 2 U U (aQ (pgN 2 dB.nd) (aQ (pgN 3 dB.nd) dw)))
    case e =>
     refine' Jk (r:=QT K) ?h1 ?l ?ix ?h2
     case h1=>exact zM
     case h2=>exact fun _ _=>U
     case ix=>exact (pxL K (pv 1) aj)
     case l =>
      refine' aX ?l0
      case l0 =>
       refine' cL ?a0 ?l1 ?hh
       case hh=>intro x p z;cases z
       case a0=>exact (bD (au aj (a1 aj)))
       case l1 =>
        refine' cL ?a1 ?l2 ?hh
        case hh=>intro x p z;cases z
        case a1=>exact (bD (au aj (a1 aj)))
        case l2 =>
         refine' cL ?a2 ?l3 ?hh
         case hh=>intro x p z;cases z
         case a2=>exact (bD (au aj (a1 aj)))
         case l3 =>
          refine' cL ?a3 ?l4 ?hh
          case hh=>intro x p z;cases z
          case a3=>exact (bD (au aj (a1 aj)))
          case l4 =>
           refine' cL ?a4 ?l5 ?hh
           case hh=>intro x p z;cases z
           case a4=>exact (bD (au aj (a1 aj)))
           case l5 =>
            refine' cL ?a5 ?l6 ?hh
            case hh=>intro x p z;cases z
            case a5=>exact (bD (au aj (a1 aj)))
            case l6 =>
             refine' cL ?a6 ?l7 ?hh
             case hh=>intro x p z;cases z
             case a6=>exact (bD (au aj (a1 aj)))
             case l7=>exact cY
   case r1 =>
    refine' aq ?s2 ?r2
    case s2=>exact (sT 4 dB.nd (aP VU hr (au (aP VI hr (au (pv 0) (a1 aj))) (v2 2 3))))
    case r2 =>
     refine' aq ?s3 ?r3
     case s3=>exact (iz (aU tZ (pxL K (pv 1) aj) aj) (aO (sT 4 dB.nd (aH (r:=N7 K) Od (bD (a1 aj)) (pv 2)))) cQ)
     case r3 =>
      refine' aO ?s4
      case s4=>exact (La (bD (au (pv 2) (au (pv 3) (au (aP VE hr (au (pv 0) (au aj (v2 2 3)))) (v1 4))))))
 refine⟨_,U,a,ss,0,U,hS,smN 3,fun p2 h2=>?_⟩
 generalize eH2:upd H p2 _=H2
 obtain⟨g2,e2⟩:=aC eH2 h2
 refine⟨_,p2,[7,3,12],U,sqL e2,by decide,by decide,fun p3 h3=>?_⟩
 generalize eH3:upd H2 p3 _=H3
 obtain⟨g3,e3⟩:=aC eH3 h3
 have hps:∀ q∈([7,3,12]:IN),0 < q:=by decide
 obtain⟨d0,k0,b0⟩:=bA (c:=jq (ss.getD 0 0)) (i:=0) hps U
 obtain⟨d1,k1,b1⟩:=bA (c:=jq (ss.getD 0 0)) (i:=1) hps U
 have a0:=cV (fG k0)
 have a1:=cV (fG k1)
 have s3:aG H H3:=g2.trans g3
 refine⟨smN 2,fun t1 u1=>?_⟩
 generalize eT1:upd H3 t1 _=T1
 obtain⟨gt1,et1⟩:=aC eT1 u1
 refine⟨smN 2,fun t2 u2=>?_⟩
 generalize eT2:upd T1 t2 _=T2
 obtain⟨gt2,et2⟩:=aC eT2 u2
 refine⟨smN 2,fun t3 u3=>?_⟩
 generalize eT3:upd T2 t3 _=T3
 obtain⟨gt3,et3⟩:=aC eT3 u3
 refine⟨smN 2,fun t4 u4=>?_⟩
 generalize eT4:upd T3 t4 _=T4
 obtain⟨gt4,et4⟩:=aC eT4 u4
 refine⟨smN 2,fun t5 u5=>?_⟩
 generalize eT5:upd T4 t5 _=T5
 obtain⟨gt5,et5⟩:=aC eT5 u5
 refine⟨smN 2,fun t6 u6=>?_⟩
 generalize eT6:upd T5 t6 _=T6
 obtain⟨gt6,et6⟩:=aC eT6 u6
 refine⟨smN 2,fun t7 u7=>?_⟩
 generalize eT7:upd T6 t7 _=T7
 obtain⟨gt7,et7⟩:=aC eT7 u7
 refine⟨smN 7,fun t8 u8=>?_⟩
 generalize eT8:upd T7 t8 _=T8
 obtain⟨gt8,et8⟩:=aC eT8 u8
 have w7:aG T7 T8:=gt8
 have w6:aG T6 T8:=gt7.trans w7
 have w5:aG T5 T8:=gt6.trans w6
 have w4:aG T4 T8:=gt5.trans w5
 have w3:aG T3 T8:=gt4.trans w4
 have w2:aG T2 T8:=gt3.trans w3
 have w1:aG T1 T8:=gt2.trans w2
 have w0:aG H3 T8:=gt1.trans w1
 obtain⟨tt,n,mo,htt,ett,n1,n12,m1,m9,hpow⟩:∃ (tt:Addr) (n mo:Nat),atI [V.ref t1,.ref t2,.ref t3,.ref t4,.ref t5,.ref t6,.ref t7] d0=some (.ref tt)/\T8 tt=some (.tup [.int (n:Int),.int (mo:Int)])/\1<=n/\n<=12/\1<=mo/\mo<=9/\(mo+1) ^ n<=256/\n<=6:=by
  rcases (show d0=0∨d0=1∨d0=2∨d0=3∨d0=4∨d0=5∨d0=6 by lia) with z | z | z | z | z | z | z
  ·exact⟨t1,3,3,by rw[z];rfl,w1 _ _ et1,by decide,by decide,by decide,by decide,by decide,by decide⟩
  ·exact⟨t2,2,9,by rw[z];rfl,w2 _ _ et2,by decide,by decide,by decide,by decide,by decide,by decide⟩
  ·exact⟨t3,4,3,by rw[z];rfl,w3 _ _ et3,by decide,by decide,by decide,by decide,by decide,by decide⟩
  ·exact⟨t4,1,9,by rw[z];rfl,w4 _ _ et4,by decide,by decide,by decide,by decide,by decide,by decide⟩
  ·exact⟨t5,3,2,by rw[z];rfl,w5 _ _ et5,by decide,by decide,by decide,by decide,by decide,by decide⟩
  ·exact⟨t6,5,2,by rw[z];rfl,w6 _ _ et6,by decide,by decide,by decide,by decide,by decide,by decide⟩
  ·exact⟨t7,6,1,by rw[z];rfl,w7 _ _ et7,by decide,by decide,by decide,by decide,by decide,by decide⟩
 have s8:aG H T8:=s3.trans w0
 refine⟨_,U,p3,_,_,_,U,U,sqL (w0 _ _ e3),a0,t8,_,_,_,U,U,sqL et8,htt,tt,_,U,sqT ett,U,_,_,U,_,_,U,U,_,U,a,ss,1,U,yX s8 hS,_,U,_,U,ss.getD 1 0,n,(mo:Int),U,by lia,by lia,by lia,fun r4 H4 s4 _ e4=>?_⟩
 refine gN ?_
 dsimp only
 show G6 (FT _ _ _) _ _ _ _
 have s4':aG H H4:=s8.trans s4
 refine lO (fun σ H5=>∃ (f:Addr) (fl:IN),σ=[oR a,oR p3,some (.int (n:Int)),some (.int (mo:Int)),oR f]/\aG H H5/\H5 f=some (.tup (fl.map V.int))/\fl.length=n/\∀ x∈fl,0<=x/\x<=(mo:Int)) ?rest (fun _ R=>?_)
 case rest =>
  rintro σ H5 ⟨f,fl,rfl,s5,e5,lf,hf⟩
  refine⟨_,U,_,U,_,U,_,U,_,U,a,ss,2,n,mo,U,yX s5 hS,by decide,n1,n12,m1,m9,fun b us bk H6 s6 sb=>?_⟩
  refine⟨_,U,smN 4,fun p7 h7=>?_⟩
  have sn:=aA h7 (.tup [.int (n:Int),.int (mo:Int),.ref b,.ref f])
  exact q p7 n mo b f us bk fl _ (s5.trans (s6.trans sn)) aa n1 hpow.2 (sb.mono s5 sn) (sn _ _ (s6 _ _ e5)) ⟨lf,fun x hx=>⟨(hf x hx).1,by have:=(hf x hx).2;lia⟩⟩
 ·refine⟨_,U,p3,_,_,_,U,U,sqL (s4 _ _ (w0 _ _ e3)),a1,_,_,U,U,_,U,?_⟩
  refine DK (fun _=>?_) (fun _=>R _ _ ⟨r4,_,U,s4',e4,lR _ _ _,MK (by lia)⟩)
  refine Rr (z:=(n:Int)) (n:=n) U n1 (by lia) U fun ra Ha sa ea=>?_
  refine R _ _ ⟨ra,Ur n 0,U,s4'.trans sa,ea,We,fun x hx=>?_⟩
  rw[(List.mem_replicate.mp hx).2]
  lia
abbrev ie:Stmt:=top 40
theorem jL:aK ["_law_script","_law_start","_law_some"] YE (aD ie):=gC
inductive wY (K:UT)(vs:Lo)(H:Hp)(Q:VK)(e3:XK):Prop where
 | mk (a:Addr) (ss:IN) (st:Int) (_:vs=[.ref a,.int st]) (_:SqL K H a (ss.map V.int)) (_:ss.length<=63) (_:∀ (r:Addr) (n mo:Nat) (b f:Addr) (us:Lo) (bk:List (List Pl)) (fl:IN) (H':Hp),aG H H'->H' r=some (.tup [.int (n:Int),.int (mo:Int),.ref b,.ref f])->1<=n->n<=6->ScB n H H' b us bk->H' f=some (.tup (fl.map V.int))->okG n fl->Q (.ref r) H')
theorem qH (F:Fun K "_law_scene_at" "_law_scene_at" ie f fd) (B:Bt mg)
  (WG:Df P w K mg base "_law_scene" 8 ZN (Hj K)):dF P w K mg base CX0 9 f fd YE (wY K):=by
 refine okA F jL fun H Q E hr h=>?_
 obtain⟨a,ss,st,rfl,hS,ls,q⟩:=h
 refine⟨_,(aq (sT 2 jL.nd (eX (r:=QX K) yS (pv 0) (gm (pv 1)) (gm (aH bF (pv 1) aj))))
 (aq (cu (jF Uz Vb Va bI (pv 2) (v1 1)))
 (sR (aP WG hr (v1 2))))),?_⟩
 refine⟨_,U,_,U,_,U,_,U,_,_,U,U,_,U,a,_,U,hS,fun p1 h1=>?_⟩
 obtain⟨ks,ek,lk⟩:=uo ss (some st) (some (st+9))
 rw[show xZ (ss.map V.int) (some st) (some (st+9))=ks.map V.int from ek]
 generalize eH1:upd H p1 _=H1
 obtain⟨g1,e1⟩:=aC eH1 h1
 refine⟨_,U,.inl ⟨U,_,sqL e1⟩,_,U,p1,_,_,U,U,e1,aB (by rw[Tw];lia),?_⟩
 have ec:ks.map V.int++[V.int st]=(ks++[st]).map V.int:=by rw[T9];rfl
 rw[ec]
 have s2:aG H (upd H1 p1 (.lst ((ks++[st]).map V.int))):=aF g1 h1 _
 exact⟨_,U,p1,ks++[st],U,sqL aa,fun r n mo b f us bk fl H' s' er n1 n6 sb hf of=>q r n mo b f us bk fl H' (s2.trans s') er n1 n6 (sb.mono s2 (aG.refl _)) hf of⟩
theorem An {l:Addr}{xs:Lo}{k:Nat}{y:V}{H:Hp}{Q:VK}(hl:H l=some (.lst xs))(hk:k < xs.length)(h5:xs.length<=100)(hy:xs[k]? = some y)(q:Q y (upd H l (.lst (xs.eraseIdx k)))):Ff (.ref l) [.int (k:Int)] H Q:=by
 refine⟨l,xs,(k:Int),k,y,U,U,hl,by lia,by lia,?_,hy,q⟩
 have hj:(if (k:Int) < 0 then (k:Int)+(xs.length:Int) else (k:Int))=(k:Int):=iNe (by lia)
 have hd:((decide (0<=(k:Int)) && decide ((k:Int) < (xs.length:Int)))=true):=by
  rw[dcT (by lia),dcT (by lia)]
  rfl
 show (if (decide (0<=if (k:Int) < 0 then (k:Int)+(xs.length:Int) else (k:Int)) && decide ((if (k:Int) < 0 then (k:Int)+(xs.length:Int) else (k:Int)) < (xs.length:Int)))=true then some (if (k:Int) < 0 then (k:Int)+(xs.length:Int) else (k:Int)).toNat else none)=some k
 rw[hj,iPo hd,UL]
theorem Eh {T:TT}{a b:TS}{D:Ends}{σ:St}{H:Hp}(R:Bool->Hp->Prop)(hT:∀ Q:Bool->Hp->Prop,(∀ c H1,R c H1->Q c H1)->T σ H Q)(ha:∀ H1,R true H1->a D σ H1)(hb:∀ H1,R false H1->b D σ H1):FT T a b D σ H:=by
 refine hT _ fun c H1 r=>?_
 cases c
 ·exact hb _ r
 ·exact ha _ r
inductive iY (H:Hp)(D:Addr):Lo->Iy->Prop where
 | nil:iY H D [] []
 | cons {a:Addr} {c:IP} {us:Lo} {cs:Iy}:H a=some (.lst (c.map vN))->a≠D->iY H D us cs->iY H D (.ref a::us) (c::cs)
theorem iY.go {H H':Hp}{D D':Addr}(e:∀ (a:Addr) (c:IP),H a=some (HO.lst (c.map vN))->a≠D->H' a=some (HO.lst (c.map vN))/\a≠D'):∀ {us:Lo} {cs:Iy},iY H D us cs->iY H' D' us cs
 | _,_,.nil=>.nil
 | _,_,.cons h n r=>.cons (e _ _ h n).1 (e _ _ h n).2 (iY.go e r)
theorem iY.mono {H H':Hp}{D:Addr}(e:aG H H'){us:Lo}{cs:Iy}(h:iY H D us cs):iY H' D us cs:=h.go fun a c q n=>⟨e _ _ q,n⟩
theorem iY.upd {H:Hp}{D:Addr}{o:HO}{us:Lo}{cs:Iy}(h:iY H D us cs):iY (upd H D o) D us cs:=h.go fun a c q n=>⟨by rw[aR n];exact q,n⟩
theorem iY.other {H:Hp}{D D':Addr}{us:Lo}{cs:Iy}(h:iY H D us cs)(n:H D'=none):iY H D' us cs:=h.go fun a c q _=>⟨q,fun z=>by rw[z,n] at q;cases q⟩
theorem iY.length {H:Hp}{D:Addr}:∀ {us:Lo} {cs:Iy},iY H D us cs->us.length=cs.length
 | _,_,.nil=>rfl
 | _,_,.cons _ _ r=>by rw[Um,Um,iY.length r]
theorem iY.snoc {H:Hp}{D a:Addr}{c:IP}(h:H a=some (.lst (c.map vN)))(n:a≠D):∀ {us:Lo} {cs:Iy},iY H D us cs->iY H D (us++[.ref a]) (cs++[c])
 | _,_,.nil=>.cons h n .nil
 | _,_,.cons x y r=>.cons x y (iY.snoc h n r)
theorem iY.append {H:Hp}{D:Addr}{us':Lo}{cs':Iy}(h':iY H D us' cs'):∀ {us:Lo} {cs:Iy},iY H D us cs->iY H D (us++us') (cs++cs')
 | _,_,.nil=>h'
 | _,_,.cons x y r=>.cons x y (iY.append h' r)
theorem iY.at {H:Hp}{D:Addr}:∀ {us:Lo} {cs:Iy} {i:Nat} {u:V},iY H D us cs->us[i]? = some u->∃ (a:Addr) (c:IP),u = .ref a/\cs[i]? = some c/\H a=some (.lst (c.map vN))/\a≠D
 | _,_,_,_,.nil,h=>by simp at h
 | _,_,0,_,.cons h n _,e=>by
  cases (show some _=some _ from e)
  exact⟨_,_,U,U,h,n⟩
 | _,_,i+1,_,.cons _ _ r,e=>by
  obtain⟨a,c,h1,h2,h3⟩:=iY.at (i:=i) r (by simpa using e)
  exact⟨a,c,h1,by simpa using h2,h3⟩
theorem bZ:∀ n,(aW n).length=2 ^ n
 | 0=>rfl
 | n+1=>by rw[aW,Uh,Tw,bZ n,Nat.pow_succ];lia
theorem iG:∀ n,∀ c∈aW n,(∀ i∈c,i < n)/\c.Pairwise (· < ·)
 | 0,c,h=>by
  rw[aW,WY] at h
  subst h
  exact⟨by simp,Ze⟩
 | n+1,c,h=>by
  rw[aW,aaK] at h
  rcases h with h | h
  ·obtain⟨h1,h2⟩:=iG n c h
   exact⟨fun i hi=>Vi (h1 i hi),h2⟩
  ·obtain⟨d,hd,rfl⟩:=List.mem_map.mp h
   obtain⟨h1,h2⟩:=iG n d hd
   refine⟨fun i hi=>?_,?_⟩
   ·rcases List.mem_append.mp hi with z | z
    ·exact Vi (h1 i z)
    ·rw[List.mem_singleton.mp z]
     exact Wb n
   ·rw[Xw]
    refine⟨h2,by simp,fun a ha b hb=>?_⟩
    rw[List.mem_singleton.mp hb]
    exact h1 a ha
theorem iK:∀ {c:IP} {m n:Nat},c.Pairwise (· < ·)->(∀ i∈c,m<=i/\i < n)->c.length<=n - m
 | [],m,n,_,_=>Uw _
 | a::c,m,n,hp,h=>by
  rw[Wu] at hp
  have h1:=h a TY
  have:=iK (c:=c) (m:=a+1) (n:=n) hp.2 fun i hi=>⟨hp.1 i hi,(h i (TX _ hi)).2⟩
  rw[Um]
  lia
def aZ (n:Nat):Iy:=(crS n).map fun i=>(aW n).getD i []
theorem DP:∀ n,n<=6->∀ i∈crS n,i < 2 ^ n:=by decide+kernel
theorem yF:∀ n,1<=n->n<=6->(crS n).length=2 ^ n:=by
 intro n h1 h6
 match n,h1,h6 with
 | 1,_,_=>rfl
 | 2,_,_=>rfl
 | 3,_,_=>rfl
 | 4,_,_=>rfl
 | 5,_,_=>rfl
 | 6,_,_=>rfl
theorem eU {n:Nat}(h1:1<=n)(h6:n<=6):(aZ n).length=2 ^ n:=by rw[aZ,Tw];exact yF n h1 h6
theorem iW {n:Nat}(h6:n<=6):∀ c∈aZ n,(∀ i∈c,i < n)/\c.Pairwise (· < ·):=fun c hc=>by
 obtain⟨i,hi,rfl⟩:=List.mem_map.mp hc
 have hl:=DP n h6 i hi
 rw[← bZ n] at hl
 refine iG n _ ?_
 rw[TQ,TJ hl]
 exact VD hl
theorem JB {n:Nat}(h1:1<=n)(h6:n<=6):∃ o:Nat->Nat->Bool,(∀ i j,i < 2 ^ n->j < 2 ^ n->o i j=crO n i j)/\(((mq o (2 ^ n)).run ⟨Ui (2 ^ n),#[],7⟩).map fun r=>r.2.a)=some (crS n):=by
 match n,h1,h6 with
 | 1,_,_=>exact⟨_,fun i j hi hj=>(Tr i hi j hj).symm,R6⟩
 | 2,_,_=>exact⟨_,fun i j hi hj=>(Sh i hi j hj).symm,Tf⟩
 | 3,_,_=>exact⟨_,fun i j hi hj=>(Sx i hi j hj).symm,Ti⟩
 | 4,_,_=>exact⟨_,fun i j hi hj=>(Tg i hi j hj).symm,Td⟩
 | 5,_,_=>exact⟨_,fun i j hi hj=>(SN i hi j hj).symm,Sv⟩
 | 6,_,_=>exact⟨_,fun i j hi hj=>(S6 i hi j hj).symm,SM⟩
theorem wC:∀ a b:IP,HT.lexLt (a.map fun i:Nat=>(i:Int)) (b.map fun i:Nat=>(i:Int))=Q3 a b
 | [],[]=>rfl
 | [],_::_=>rfl
 | _::_,[]=>rfl
 | a::l,b::r=>by
  rw[U6,U6,HT.fU,Q3,wC l r]
  by_cases e:a=b
  ·rw[iPo e,iPo (by rw[e])]
  ·rw[iNe e,iNe (by lia)]
   by_cases z:a < b
   ·rw[dcT z,dcT (by lia)]
   ·rw[dcF z,dcF (by lia)]
def iN (c:IP):IN:=c.map fun i:Nat=>(i:Int)
theorem Gw (a b:IP):xM (iN a) (iN b)=Rn a b:=by
 unfold xM Rn iN
 rw[Tw,Tw,wC]
def PR (H:Hp)(us:Lo)(cs:Iy)(ps:HV):Prop:=∀ (j:Nat) (q:Addr × Addr),ps[j]? = some q->∃ c:IP,us[j]? = some (.ref q.2)/\cs[j]? = some c/\H q.1=some (.tup [.int (c.length:Int),.ref q.2])
theorem PR.go {H H':Hp}{us:Lo}{cs:Iy}{ps:HV}(h:PR H us cs ps)(e:∀ a xs,H a=some (HO.tup xs)->H' a=some (HO.tup xs)):PR H' us cs ps:=fun j q hq=>by
 obtain⟨c,h1,h2,h3⟩:=h j q hq
 exact⟨c,h1,h2,e _ _ h3⟩
theorem Ms {α:Type}{xs:List α}{x y:α}{j:Nat}(h:(xs++[x])[j]? = some y):xs[j]? = some y∨(j=xs.length/\y=x):=by
 by_cases hj:j < xs.length
 ·rw[Wh hj] at h
  exact .inl h
 ·have hl:=(geS h).1
  rw[Uh,List.length_singleton] at hl
  have e:j=xs.length:=by lia
  subst e
  rw[Vl (Ua _),abu] at h
  exact .inr ⟨U,(U4 h).symm⟩
abbrev jN:Stmt:=top 46
theorem fK:aK ["_law_n","_law_found","_law_one"] ["_law_n"] (aD jN):=gC
inductive Bx (vs:Lo)(H:Hp)(Q:VK)(e3:XK):Prop where
 | mk (n:Nat) (_:vs=[.int (n:Int)]) (_:1<=n) (_:n<=6) (_:∀ (r:Addr) (us:Lo) (H':Hp),aG H H'->H' r=some (.lst us)->iY H' r us (aZ n)->Q (.ref r) H')
theorem uR (F:Fun K "_law_crowds" "_law_crowds" jN f fd) (B:Bt mg) :
  dF P w K mg base CX0 1 f fd ["_law_n"] Bx:=by
 refine okA F fK fun H Q E hr h=>?_
 obtain⟨n,rfl,h1,h6,q⟩:=h
 have e64:2 ^ n<=64:=Wx (n:=2) (by decide) h6
 refine⟨_,(aq (sT 1 fK.nd (aX (a1 (aX cY))))
 (aq (cW U3 U (bM U B.range_ (v1 0)) (qK (i:=2) fK.nd U (Zm U)) (aO (sT 1 fK.nd (aH lX (pv 1) (bh (L:=ZA) (F:=ZO) (cap:=[2]) U (aV U U (by kernel_rfl)) (cB (pv 1)) (fun _ _ _ _ _=>(pgC 0)) (fun _ _ _ _ _=>bu) (fun _ _ _ _ _=>(aH lX (pv 0) (aX (v1 1)))))))))
 (sR (bh (L:=["_law_length","_law_crowd_here"]) (F:=[]) (cap:=[]) U (aV U U (by kernel_rfl)) (cB (aL (r:=Ks K) (Ck hr) U B.sorted_ (by decide+kernel) (a1 (bh (L:=ZA) (F:=[]) (cap:=[]) U (aV U U (by kernel_rfl)) (cB (pv 1)) (fun _ _ _ _ _=>(pgC 0)) (fun _ _ _ _ _=>bu) (fun _ _ _ _ _=>(bD (au (pln K B.len_ (pv 0)) (v1 0)))))))) (fun _ _ _ _ _=>(du (K:=K) 2 U U (aQ (pgC 0) (aQ (pgC 1) dw)))) (fun _ _ _ _ _=>bu) (fun _ _ _ _ _=>(pv 1)))))),?_⟩
 refine⟨smN 0,fun p0 h0=>?_⟩
 generalize eH1:upd H p0 _=H1
 obtain⟨g1,e1⟩:=aC eH1 h0
 refine⟨smN 1,fun f0 hf0=>?_⟩
 generalize eH2:upd H1 f0 _=H2
 obtain⟨g2,e2⟩:=aC eH2 hf0
 have en:((n:Int)).toNat=n:=UL n
 refine⟨_,U,_,U,by lia,by lia,fc (lo:=0) (n:=((n:Int)).toNat) (fun i σ Hx=>∃ (fo:Addr) (us:Lo) (u:Lc),σ=[some (.int (n:Int)),oR fo,u]/\aG H Hx/\Hx fo=some (.lst us)/\iY Hx fo us (aW i))
  ⟨f0,[.ref p0],_,U,g1.trans g2,e2,.cons (c:=[]) (g2 _ _ e1) (dC e1 hf0) .nil⟩ ?_ ?_⟩
 ·rintro i σ Hx hi ⟨fo,us,u,rfl,sx,efo,lr⟩
  rw[en] at hi
  have lu:=lr.length
  rw[bZ] at lu
  have i6:i<=6:=by lia
  have e32:2 ^ i<=64:=Wx (n:=2) (by decide) i6
  refine⟨_,U,_,U,fo,U,⟨_,sqL efo⟩,fun D hD=>bV (K:=K) (a:=fo) (xs:=us) (fun j ys σ' Hy=>(∃ u,σ'=[u,some (.int (0+(i:Int)))])/\aG Hx Hy/\Hy D=some (.lst ys)/\iY Hy D ys (((aW i).take j).map (·++[i])))
   ⟨⟨_,U⟩,aA hD _,aa,by rw[Vs];exact .nil⟩ (fun j ys σ' Hy _ h=>⟨sqL (h.2.1 _ _ efo),h.2.2.1⟩) ?_ ?_⟩
  ·rintro j ys x σ' Hy hx ⟨⟨u,rfl⟩,sy,eD,ly⟩
   obtain⟨a,c,rfl,hc,ha,hne⟩:=lr.at hx
   have cl:c.length<=i:=by
    have:=iK (m:=0) (iG i c (Ud hc)).2 fun k hk=>⟨Uw _,(iG i c (Ud hc)).1 k hk⟩
    lia
   have lyl:=ly.length
   rw[Tw,Uj,bZ] at lyl
   refine gT ?_
   refine⟨_,U,_,U,smN 1,fun p hp=>?_⟩
   generalize eH4:upd Hy p _=H4
   obtain⟨g4,e4⟩:=aC eH4 hp
   refine⟨a,p,_,_,U,U,g4 _ _ (sy _ _ ha),e4,small (by rw[Tw];show c.length+1<=1000;lia),fun p2 h2=>?_⟩
   have g5:aG H4 (upd H4 p2 (.lst (c.map vN++[.int (0+(i:Int))]))):=aA h2 _
   have n2:p2≠D:=fun z=>by rw[z,g4 _ _ eD] at h2;cases h2
   refine⟨g5 _ _ (g4 _ _ eD),aB (by lia),⟨_,U⟩,aF ((sy.trans g4).trans g5) hD _,aa,?_⟩
   have:(aW i).take (j+1)=(aW i).take j++[c]:=by rw[Ux,hc];rfl
   rw[this,T9]
   refine iY.upd (iY.snoc ?_ n2 (ly.mono (g4.trans g5)))
   rw[aa,Wt,T9]
   rfl
  ·rintro ys σ' Hy ⟨_,sy,eD,ly⟩
   have lyl:=ly.length
   rw[show us.length=(aW i).length by rw[lu,bZ],Ul] at ly lyl
   rw[Tw,bZ] at lyl
   refine⟨fo,D,us,ys,U,U,sy _ _ efo,eD,small (by lia),fun p3 h3=>⟨p3,us++ys,_,U,sx.trans (sy.trans (aA h3 _)),aa,?_⟩⟩
   exact iY.upd (((ly.other h3)).append ((lr.mono sy).other h3))
 ·rintro σ Hx ⟨fo,us,u,rfl,sx,efo,lr⟩
  rw[en] at lr
  have lu:=lr.length
  rw[bZ] at lu
  refine⟨_,U,fo,U,⟨_,sqL efo⟩,fun D hD=>bV (K:=K) (a:=fo) (xs:=us) (fun j ys σ' Hy=>(∃ u,σ'=[u])/\aG Hx Hy/\Hy D=some (.lst ys)/\∃ ps:HV,ys=ps.map (fun q=>V.ref q.1)/\ps.length=j/\PR Hy us (aW n) ps)
   ⟨⟨_,U⟩,aA hD _,aa,[],U,U,fun j q h=>by simp at h⟩ (fun j ys σ' Hy _ h=>⟨sqL (h.2.1 _ _ efo),h.2.2.1⟩) ?_ ?_⟩
  ·rintro j ys x σ' Hy hx ⟨⟨u,rfl⟩,sy,eD,ps,rfl,lps,pr⟩
   obtain⟨a,c,rfl,hc,ha,hne⟩:=lr.at hx
   have hj:=(geS hx).1
   refine gT ?_
   refine⟨_,U,a,_,U,.inl (sqL (sy _ _ ha)),_,U,smN 2,fun p hp=>?_⟩
   generalize eH4:upd Hy p _=H4
   obtain⟨g4,e4⟩:=aC eH4 hp
   have tk:=bO (zs':=ps.map (fun q=>V.ref q.1)++[.ref p]) (g4 _ _ eD)
   refine⟨g4 _ _ eD,aB (by rw[Tw];lia),⟨_,U⟩,aF (sy.trans g4) hD _,aa,ps++[(p,a)],by rw[T9];rfl,by rw[Uh,lps];rfl,fun k q hq=>?_⟩
   rcases Ms hq with z | ⟨z1,z2⟩
   ·exact ((pr.go fun a xs q=>g4 _ _ q).go tk) k q z
   ·subst z1 z2
    rw[lps]
    refine⟨c,hx,hc,tk _ _ ?_⟩
    rw[e4,Tw]
  ·rintro ys σ' Hy ⟨_,sy,eD,ps,rfl,lps,pr⟩
   have hps:∀ i,i < 2 ^ n->∃ q c,ps[i]? = some q/\us[i]? = some (.ref q.2)/\(aW n)[i]? = some c/\Hy q.1=some (.tup [.int (c.length:Int),.ref q.2])/\Hy q.2=some (.lst (c.map vN)):=fun i hi=>by
    have hi':i < ps.length:=by lia
    obtain⟨c,z1,z2,z3⟩:=pr i ps[i] (TJ hi')
    obtain⟨a,c',e1,e2,e3,_⟩:=lr.at z1
    rw[z2] at e2
    cases e2
    cases e1
    exact⟨ps[i],c,TJ hi',z1,z2,z3,sy _ _ e3⟩
   let pq:HL:=(Ui (2 ^ n)).map fun i=>((ps.getD i (0,0)).1,iN ((aW n).getD i []))
   have lpq:pq.length=2 ^ n:=by show ((Ui (2 ^ n)).map _).length=_;rw[Tw,UJ]
   have atq:∀ i q,pq[i]? = some q->i < 2 ^ n/\q=((ps.getD i (0,0)).1,iN ((aW n).getD i [])):=fun i q hq=>by
    have hi:=(geS hq).1
    rw[lpq] at hi
    refine⟨hi,?_⟩
    have:pq[i]? = some ((ps.getD i (0,0)).1,iN ((aW n).getD i [])):=by
     show ((Ui (2 ^ n)).map _)[i]? = _
     rw[Uo,Wd hi]
     rfl
    rw[this] at hq
    exact (U4 hq).symm
   have gq:∀ i,i < 2 ^ n->pq[i]? = some ((ps.getD i (0,0)).1,iN ((aW n).getD i [])):=fun i hi=>by
    show ((Ui (2 ^ n)).map _)[i]? = _
    rw[Uo,Wd hi]
    rfl
   have eqs:ps.map (fun q=>V.ref q.1)=pq.map fun p=>V.ref p.1:=by
    refine abB fun i=>?_
    rw[Uo,Uo]
    by_cases hi:i < 2 ^ n
    ·have hi':i < ps.length:=by lia
     rw[gq i hi,TJ hi',TQ,TJ hi']
     rfl
    ·rw[Vz (by lia),Vz (by lia)]
     rfl
   clear_value pq
   obtain⟨o,ho,he⟩:=JB h1 h6
   have p2:2<=2 ^ n:=Vd (by decide) (Wx (n:=2) (by decide) h1)
   refine⟨D,pq,o,crS n,U,sqL (by rw[eD,eqs]),by lia,by lia,fun x hx=>?_,fun i j a b ha hb=>?_,by rw[yF n h1 h6,lpq],fun i hi=>by rw[lpq];exact DP n h6 i hi,by rw[lpq];exact he,fun l hl=>?_⟩
   ·obtain⟨i,hi,ei⟩:=XH hx
    obtain⟨hi',ex⟩:=atq i x (by rw[← ei];exact TJ hi)
    obtain⟨qq,c,z1,z2,z3,z4,z5⟩:=hps i hi'
    subst ex
    rw[TQ,z1,TQ,z3]
    refine⟨qq.2,sqT ?_,sqL ?_⟩
    ·rw[iN,Tw]
     exact z4
    ·show Hy qq.2=some (.lst ((iN c).map V.int))
     rw[iN,← je]
     exact z5
   ·obtain⟨i1,rfl⟩:=atq i a ha
    obtain⟨j1,rfl⟩:=atq j b hb
    rw[ho i j i1 j1]
    exact (Gw _ _).symm
   ·generalize eH5:upd Hy l _=H5
    obtain⟨g5,e5⟩:=aC eH5 hl
    have lS:=yF n h1 h6
    refine⟨l,U,⟨_,sqL e5⟩,fun D2 hD2=>bV (K:=K) (a:=l) (xs:=(crS n).map fun i=>V.ref (pq.getD i (0,[])).1) (fun j ys σ' Hz=>(∃ u v,σ'=[u,v])/\aG H5 Hz/\Hz D2=some (.lst ys)/\iY Hz D2 ys ((aZ n).take j))
     ⟨⟨_,_,U⟩,aA hD2 _,aa,by rw[Vs];exact .nil⟩ (fun j ys σ' Hz _ h=>⟨sqL (h.2.1 _ _ e5),h.2.2.1⟩) ?_ ?_⟩
    ·rintro j ys x σ' Hz hx ⟨⟨u,v,rfl⟩,sz,eD2,lz⟩
     rw[Uo] at hx
     cases ej:(crS n)[j]? with
     | none=>rw[ej] at hx;cases hx
     | some i =>
      rw[ej] at hx
      have hi:=DP n h6 i (Ud ej)
      have hj:=(geS ej).1
      obtain⟨qq,c,z1,z2,z3,z4,z5⟩:=hps i hi
      have ex:x = .ref qq.1:=by
       rw[← U4 hx]
       show V.ref (pq.getD i (0,[])).1=_
       rw[TQ,gq i hi]
       show V.ref (ps.getD i (0,0)).1=_
       rw[TQ,z1]
       rfl
      subst ex
      have s5:=g5.trans sz
      have lzl:=lz.length
      rw[Uj] at lzl
      refine⟨qq.1,_,U,sqT (s5 _ _ z4),U,_,_,U,_,_,U,U,?_⟩
      refine tT ?_
      refine⟨_,U,eD2,aB (by lia),⟨_,_,U⟩,aF sz hD2 _,aa,?_⟩
      have:(aZ n).take (j+1)=(aZ n).take j++[c]:=by
       rw[Ux,aZ,Uo,ej]
       show _++[(aW n).getD i []]=_
       rw[TQ,z3]
       rfl
      rw[this]
      refine iY.upd (iY.snoc (s5 _ _ z5) (fun z=>?_) lz)
      rw[z] at z5
      rw[g5 _ _ z5] at hD2
      cases hD2
    ·rintro ys σ' Hz ⟨_,sz,eD2,lz⟩
     rw[Tw,← show (aZ n).length=(crS n).length from Tw ..,Ul] at lz
     exact q D2 ys Hz (sx.trans (sy.trans (g5.trans sz))) eD2 lz
theorem pB (x:Nat):∀ c:IP,inV (.int (x:Int)) (c.map vN)=decide (x∈c)
 | []=>rfl
 | y::c=>by
  have ih:=pB x c
  unfold inV at ih ⊢
  rw[U6,Yl,ih]
  by_cases e:x=y
  ·subst e
   rw[dcT TY]
   simp [vN,eqV]
  ·have:eqV (vN y) (.int (x:Int))=false:=by
    simp [vN,eqV]
    lia
   rw[this,aa7]
   exact decide_eq_decide.mpr (by simp [e])
theorem qC (c:IP):(c.map vN).all uY=true:=by
 rw[List.all_map,abR]
 intro x _
 rfl
def lfF (gs hs:IN)(c:IP):IN:=(Ui gs.length).map fun i=>if i∈c then hs.getD i 0 else gs.getD i 0
abbrev um:Stmt:=top 1
theorem Hg:aK YR YR (aD um):=gC
inductive sS (vs:Lo)(H:Hp)(Q:VK)(e3:XK):Prop where
 | mk (a b d:Addr) (gs hs:IN) (c:IP) (_:vs=[.ref a,.ref b,.ref d]) (_:H a=some (.tup (gs.map V.int))) (_:H b=some (.tup (hs.map V.int))) (_:H d=some (.lst (c.map vN))) (_:gs.length=hs.length) (_:gs.length<=100) (_:∀ (r:Addr) (H':Hp),aG H H'->H' r=some (.tup ((lfF gs hs c).map V.int))->Q (.ref r) H')
theorem Ej (F:Fun K "lifted" "lifted" um f fd) (B:Bt mg) :
  dF P w K mg base CX0 1 f fd YR sS:=by
 refine okA F Hg fun H Q E hr h=>?_
 obtain⟨a,b,d,gs,hs,c,rfl,ha,hb,hd,hl,l100,q⟩:=h
 refine⟨_,(sR (bG (r:=fH K) bw U B.tuple_ bW (a1 (bh (L:=["one","step"]) (F:=["crowd","high"]) (cap:=[2,1]) U (aV U U (by kernel_rfl)) (uK U B.enumerate_ (v1 0)) (fun _ _ _ _ _=>(du (K:=K) 2 U U (aQ (pgC 0) (aQ (pgC 1) dw)))) (fun _ _ _ _ _=>bu) (fun _ _ _ _ _=>(Be (nQ (r:=rIn K false) iJ (pv 0) (pv 2) U) (pxT K (pv 3) (pv 0)) (pv 1))))))),?_⟩
 refine⟨_,U,a,_,U,sqT ha,fun D hD=>nD (K:=K) (a:=a) (xs:=gs.map V.int) (fun i zs σ' H3=>(∃ u v,σ'=[u,v,oR d,oR b])/\aG H H3/\H3 D=some (.lst zs)/\zs=((Ui i).map fun j=>if j∈c then hs.getD j 0 else gs.getD j 0).map V.int)
  ⟨⟨_,_,U⟩,aA hD _,aa,U⟩ (fun i zs σ' H3 _ h=>⟨sqT (h.2.1 _ _ ha),h.2.2.1⟩) ?_ ?_⟩
 ·rintro i zs x p σ' H3 hx hp ⟨⟨u,v,rfl⟩,sm,eD,rfl⟩
  obtain⟨y,hy,rfl⟩:=int_at hx
  have hin:=(geS hy).1
  generalize eH4:upd H3 p _=H4
  obtain⟨g4,e4⟩:=aC eH4 hp
  have s4:aG H H4:=sm.trans g4
  refine⟨p,_,U,sqT e4,U,_,_,U,_,_,U,U,?_⟩
  refine tT ?_
  have gy:gs.getD i 0=y:=by rw[TQ,hy];rfl
  have hih:i < hs.length:=by lia
  have gi:hs.getD i 0=hs[i]:=by rw[TQ,TJ hih];rfl
  refine⟨_,U,_,U,d,_,U,.inl (sqL (s4 _ _ hd)),U,qC c,_,U,?_⟩
  have nx:∀ z:Int,z=(if i∈c then hs.getD i 0 else gs.getD i 0)->((Ui (i+1)).map fun j=>if j∈c then hs.getD j 0 else gs.getD j 0).map V.int=((Ui i).map fun j=>if j∈c then hs.getD j 0 else gs.getD j 0).map V.int++[.int z]:=fun z ez=>by
   rw[ez,Xm,T9,T9]
   rfl
  have ln:(((Ui i).map fun j=>if j∈c then hs.getD j 0 else gs.getD j 0).map V.int).length < sizeLine:=aB (by rw[Tw,Tw,UJ];lia)
  rw[pB]
  by_cases e:i∈c
  ·rw[dcT e]
   refine gF ⟨_,U,_,U,b,_,_,_,U,U,sqT (s4 _ _ hb),jJ hih,g4 _ _ eD,ln,⟨_,_,U⟩,aF s4 hD _,aa,?_⟩
   exact (nx _ (by rw[iPo e,gi])).symm
  ·rw[dcF e]
   refine fC ⟨_,U,g4 _ _ eD,ln,⟨_,_,U⟩,aF s4 hD _,aa,?_⟩
   exact (nx _ (by rw[iNe e,gy])).symm
 ·rintro zs σ' H3 ⟨_,sm,eD,rfl⟩
  refine⟨D,_,U,.inl ⟨sqL eD,fun l hl'=>?_⟩⟩
  refine q l _ (sm.trans (aA hl' _)) ?_
  rw[aa,Tw]
  rfl
def hdF (bk:List (List Pl))(lo g:IN):IN:=(Ui bk.length).map fun i=>max (lo.getD i 0) (min (g.getD i 0) (duF g 0 (bk.getD i [])))
theorem rR {bk:List (List Pl)}{lo g:IN}{i:Nat}(h:i < bk.length):(hdF bk lo g).getD i 0=max (lo.getD i 0) (min (g.getD i 0) (duF g 0 (bk.getD i []))):=by
 unfold hdF
 rw[TQ,Uo,Wd h]
 rfl
theorem iR (bk:List (List Pl))(lo g:IN):(hdF bk lo g).length=bk.length:=by unfold hdF;rw[Tw,UJ]
def Low (n:Nat)(fl:IN)(bk:List (List Pl))(lo:IN):Prop:=okG n lo/\cU lo fl bk=lo/\∀ g,LeG (cU g fl bk) g->LeG lo g
def InS (n:Nat)(fl:IN)(bk:List (List Pl))(lo:IN)(c:IP)(g:IN):Prop:=okG n g/\(∀ i < n,i ∉ c->g.getD i 0=lo.getD i 0)/\LeG lo g/\LeG g (cU g fl bk)
def DG (n:Nat)(fl:IN)(bk:List (List Pl))(lo:IN)(c:IP)(g:IN):Prop:=InS n fl bk lo c g/\∀ w,InS n fl bk lo c w->LeG w g
section
variable {n:Nat}{fl:IN}{bk:List (List Pl)}
theorem dY (g:IN):LeG g g:=fun i=>Vj _
theorem Low.uniq {lo lo':IN}(h:Low n fl bk lo)(h':Low n fl bk lo'):lo=lo' :=
 bU (by rw[h.1.1,h'.1.1]) (h.2.2 _ (by rw[h'.2.1];exact dY _)) (h'.2.2 _ (by rw[h.2.1];exact dY _))
theorem DG.uniq {lo:IN}{c:IP}{g g':IN}(h:DG n fl bk lo c g)(h':DG n fl bk lo c g'):g=g' :=
 bU (by rw[h.1.1.1,h'.1.1.1]) (h'.2 _ h.1) (h.2 _ h'.1)
theorem cM (hb:bk.length=n)(ok:okB bk)(hf:okG n fl){m:Nat}(st:Stops (Fd fl bk) fl m):Low n fl bk (itF (Fd fl bk) fl m) :=
 ⟨gj hb ok hf hf m,st.1,fun _ h=>qY hb ok hf h m⟩
theorem sO (hb:bk.length=n)(ok:okB bk)(hf:okG n fl){z:IN}(h:Lim n fl bk true fl z):Low n fl bk z:=by
 obtain⟨h1,h2,h3⟩:=h
 unfold Goes at h3
 rw[iPo U] at h3
 exact⟨h1,h2,fun g hg=>h3.2.2 g ((f9 hb ok hf g).trans hg) hg⟩
theorem Eu (hb:bk.length=n)(ok:okB bk)(hf:okG n fl){lo:IN}(h:Low n fl bk lo):LeG fl lo:=by
 have:=f9 hb ok hf lo
 rw[h.2.1] at this
 exact this
theorem mL (hb:bk.length=n)(ok:okB bk){g g':IN}(l:LeG g g'){i:Nat}(hi:i < n):duF g 0 (bk.getD i [])<=duF g' 0 (bk.getD i []):=by
 have h2:i < bk.length:=by lia
 rw[Oc h2]
 exact Ab l (ok bk[i] (VD h2)) (Vj _)
theorem K9 (hb:bk.length=n){lo g:IN}(hl:okG n lo)(hg:okG n g)(l:LeG lo g):okG n (hdF bk lo g):=by
 refine qG (by rw[iR];exact hb) fun i hi=>?_
 rw[rR (by lia)]
 have:=bQ hl hi
 have:=bQ hg hi
 have:=l i
 lia
theorem Qq (hb:bk.length=n){lo g:IN}(hl:okG n lo):LeG lo (hdF bk lo g):=by
 refine jP (by rw[iR,hl.1,hb]) fun i hi=>?_
 rw[hl.1] at hi
 rw[rR (by lia)]
 lia
theorem Px (hb:bk.length=n){lo g:IN}(hg:okG n g)(l:LeG lo g):LeG (hdF bk lo g) g:=by
 refine jP (by rw[iR,hg.1,hb]) fun i hi=>?_
 rw[iR] at hi
 rw[rR hi]
 have:=l i
 lia
theorem Aw (hb:bk.length=n)(ok:okB bk)(hf:okG n fl){lo g w:IN}(hlo:Low n fl bk lo)(hw:okG n w)(hk:LeG w (cU w fl bk))(l:LeG w g):LeG w (hdF bk lo g):=by
 refine jP (by rw[iR,hw.1,hb]) fun i hi=>?_
 rw[hw.1] at hi
 rw[rR (by lia)]
 have h1:=hk i
 rw[cR hb hf w hi] at h1
 have h2:=Eu hb ok hf hlo i
 have h3:=mL hb ok l hi
 have h4:=l i
 lia
theorem yP (hb:bk.length=n){lo x:IN}(hl:okG n lo)(hx:okG n x)(l:LeG lo x):∀ j,okG n (itF (hdF bk lo) x j)/\LeG lo (itF (hdF bk lo) x j)/\LeG (itF (hdF bk lo) x j) x
 | 0=>⟨hx,l,dY _⟩
 | j+1=>by
  obtain⟨h1,h2,h3⟩:=yP hb hl hx l j
  exact⟨K9 hb hl h1 h2,Qq hb hl,(Px hb h1 h2).trans h3⟩
theorem Ak (hb:bk.length=n){lo x:IN}(hl:okG n lo)(hx:okG n x)(l:LeG lo x):∃ m,m<=9 * n/\Stops (hdF bk lo) x m:=by
 refine j6 (fun g=>9 * (n:Int) - g.sum) (9 * n) (fun k=>?_) (fun k=>?_) fun k hk=>?_
 ·obtain⟨h1,_,_⟩:=yP hb hl hx l k
  have:=sum_bound h1.2
  rw[h1.1] at this
  lia
 ·obtain⟨h1,_,_⟩:=yP hb hl hx l k
  have:=sum_bound h1.2
  lia
 ·obtain⟨h1,h2,_⟩:=yP hb hl hx l k
  have h3:=K9 hb hl h1 h2
  have h4:=Px hb h1 h2
  obtain⟨s1,s2⟩:=fu (g:=hdF bk lo (itF (hdF bk lo) x k)) (g':=itF (hdF bk lo) x k) (by rw[h3.1,h1.1]) fun i _=>h4 i
  have:(hdF bk lo (itF (hdF bk lo) x k)).sum≠(itF (hdF bk lo) x k).sum:=fun z=>hk (s2 z)
  show 9 * (n:Int) - (itF (hdF bk lo) x k).sum < 9 * (n:Int) - (hdF bk lo (itF (hdF bk lo) x k)).sum
  lia
theorem oK {gs hs:IN}{c:IP}{i:Nat}(h:i < gs.length):(lfF gs hs c).getD i 0=if i∈c then hs.getD i 0 else gs.getD i 0:=by
 unfold lfF
 rw[TQ,Uo,Wd h]
 rfl
theorem jV (gs hs:IN)(c:IP):(lfF gs hs c).length=gs.length:=by unfold lfF;rw[Tw,UJ]
theorem cX {gs hs:IN}(hg:okG n gs)(hh:okG n hs)(c:IP):okG n (lfF gs hs c):=by
 refine qG (by rw[jV];exact hg.1) fun i hi=>?_
 rw[oK (by rw[hg.1];exact hi)]
 have:=bQ hg hi
 have:=bQ hh hi
 split <;> lia
theorem Ol {gs hs:IN}(hg:okG n gs)(l:LeG gs hs)(c:IP):LeG gs (lfF gs hs c):=by
 refine jP (by rw[jV]) fun i hi=>?_
 rw[oK hi]
 have:=l i
 split <;> lia
theorem Ac (hb:bk.length=n)(ok:okB bk)(hf:okG n fl){lo hi:IN}(hlo:Low n fl bk lo)(hh:okG n hi)(l:LeG lo hi)(hup:∀ w,okG n w->LeG w (cU w fl bk)->LeG w hi){c:IP}{m:Nat}(st:Stops (hdF bk lo) (lfF lo hi c) m):DG n fl bk lo c (itF (hdF bk lo) (lfF lo hi c) m):=by
 obtain⟨h1,h2,h3⟩:=yP hb hlo.1 (cX hlo.1 hh c) (Ol hlo.1 l c) m
 have fx:=st.1
 refine⟨⟨h1,fun i hi' hc=>?_,h2,?_⟩,fun w hw=>?_⟩
 ·have a:=h2 i
  have b:=h3 i
  rw[oK (by rw[hlo.1.1];exact hi'),iNe hc] at b
  lia
 ·refine jP (by rw[h1.1,(cj hb ok hf _).1]) fun i hi'=>?_
  rw[h1.1] at hi'
  have e:=rR (bk:=bk) (lo:=lo) (g:=itF (hdF bk lo) (lfF lo hi c) m) (i:=i) (by lia)
  rw[fx] at e
  rw[cR hb hf _ hi']
  have a:=cR hb hf lo hi'
  rw[hlo.2.1] at a
  have b:=mL hb ok h2 hi'
  lia
 ·have hwl:LeG w (lfF lo hi c):=by
   refine jP (by rw[jV,hw.1.1,hlo.1.1]) fun i hi'=>?_
   rw[hw.1.1] at hi'
   rw[oK (by rw[hlo.1.1];exact hi')]
   split
   ·exact hup w hw.1 hw.2.2.2 i
   ·rename_i hc
    rw[hw.2.1 i hi' hc]
    exact Vj _
  have key:∀ j,LeG w (itF (hdF bk lo) (lfF lo hi c) j):=by
   intro j
   induction j with
   | zero=>exact hwl
   | succ j ih=>exact Aw hb ok hf hlo hw.1 hw.2.2.2 ih
  exact key m
end
abbrev lM:Stmt:=top 18
abbrev Ig:Stmt:=top 19
theorem vM:aK X0 X0 (aD lM):=gC
theorem qU:aK ["book","sure","giving","lesser"] YY (aD Ig):=gC
theorem mO {α:Type}(u:α->Int)(st:Int):∀ (ps:List α) (a b:Int),min st b<=a->(ps.map fun p=>min st (u p)).foldl max a=max a (min st ((ps.map u).foldl max b))
 | [],a,b,h=>by
  show a=max a (min st b)
  lia
 | p::ps,a,b,h=>by
  rw[U6,U6,Vw,Vw,mO u st ps (max a (min st (u p))) (max b (u p)) (by lia)]
  have:=(fj (ps.map u) (max b (u p))).1
  lia
inductive Er (K:UT)(vs:Lo)(H:Hp)(Q:VK)(e3:XK):Prop where
 | mk (c g:Addr) (n:Nat) (as:II) (ps:List Pl) (ns:IN) (lo st:Int) (_:vs=[.ref c,.int lo,.int st,.ref g]) (_:H c=some (.lst (as.map V.ref))) (_:as.length<=100) (_:cJ n H as ps) (_:SqT K H g (ns.map V.int)) (_:n<=ns.length) (_:0<=lo) (_:lo<=st) (_:∀ H',aG H H'->Q (.int (max lo (min st (duF ns 0 ps)))) H')
theorem vO {k:Nat} (F:Fun K "held_step" "held_step" lM f fd) (B:Bt mg)
  (WU:Df P w K mg base "owes" k Zs (vI K)):dF P w K mg base CX0 (k+1) f fd X0 (Er K):=by
 refine okA F vM fun H Q E hr h=>?_
 obtain⟨c,g,n,as,ps,ns,lo,st,rfl,hc,l100,rps,hg,hn,h0,hls,q⟩:=h
 have ell:=rps.length
 refine⟨_,(aq (ifR (aU dg (pv 2) (pv 1)) (pv 1))
 (sR (aL (r:=Dc K) (jQ U) U B.max_ oF (a1 (aH lX (aX (v1 1)) (bh (L:=ZU) (F:=["step","giving"]) (cap:=[2,3]) U (aV U U (by kernel_rfl)) (cB (pv 0)) (fun _ _ _ _ _=>(pgC 0)) (fun _ _ _ _ _=>bu) (fun _ _ _ _ _=>(aL (pU U) U B.min_ GD (au (pv 1) (a1 (aP WU hr (v2 0 2)))))))))))),?_⟩
 refine⟨_,U,_,U,U,_,U,?_⟩
 by_cases e:st=lo
 ·subst e
  rw[dcT U]
  refine gF ⟨_,U,?_⟩
  have:=q H (aG.refl _)
  rw[show max st (min st (duF ns 0 ps))=st by lia] at this
  exact this
 ·rw[dcF (fun z=>e (by cases z;rfl))]
  refine fC ?_
  refine⟨_,U,smN 1,fun p4 h4=>?_⟩
  generalize eH4:upd H p4 _=H4
  obtain⟨g4,e4⟩:=aC eH4 h4
  refine⟨_,U,c,U,⟨_,sqL (g4 _ _ hc)⟩,fun D2 hD2=>bV (K:=K) (a:=c) (xs:=as.map V.ref) (fun j ws σ' H5=>(∃ u,σ'=[u,oI st,oR g])/\ws=((ps.take j).map fun p=>min st (owF ns p)).map V.int/\aG H4 H5/\H5 D2=some (.lst ws))
   ⟨⟨_,U⟩,U,aA hD2 _,aa⟩ (fun j ws σ' H5 _ h=>⟨sqL (h.2.2.1 _ _ (g4 _ _ hc)),h.2.2.2⟩) ?_ ?_⟩
  ·rintro j ws x σ' H5 hx ⟨⟨u,rfl⟩,e5,s5,hD5⟩
   obtain⟨a,ha,rfl⟩:=xR hx
   obtain⟨pl,hpl,rpl⟩:=rps.get ha
   refine gT ?_
   refine⟨_,U,_,U,_,U,a,g,n,pl,ns,U,rpl.mono (g4.trans s5),fL (g4.trans s5) hg,hn,fun H6 s6=>⟨_,_,U,s6 _ _ hD5,?_,⟨_,U⟩,?_,aF (s5.trans s6) hD2 _,aa⟩⟩
   ·rw[e5,Tw,Tw,Uj]
    exact aB (by lia)
   ·rw[e5,take_snoc (fun p=>min st (owF ns p)) hpl,T9]
    congr 1
    show[V.int _]=[V.int _]
    congr 2
    split <;> lia
  ·rintro ws σ' H5 ⟨_,e5,s5,hD5⟩
   rw[Tw,ell,Ul] at e5
   subst e5
   refine⟨p4,D2,_,_,U,U,s5 _ _ e4,hD5,small ?_,fun p6 h6=>?_⟩
   ·rw[Tw,Tw]
    show 1+ps.length<=1000
    lia
   generalize eH6:upd H5 p6 _=H6
   obtain⟨g6,e6⟩:=aC eH6 h6
   refine⟨p6,lo::ps.map fun p=>min st (owF ns p),U,sqL e6,by simp,?_⟩
   have:=q H6 (g4.trans (s5.trans g6))
   rw[show max lo (min st (duF ns 0 ps))=mxD 0 (lo::ps.map fun p=>min st (owF ns p)) from (mO (owF ns) st ps lo 0 (by lia)).symm] at this
   exact this
inductive Fz (vs:Lo)(H:Hp)(Q:VK)(e3:XK):Prop where
 | mk (b f g:Addr) (n:Nat) (bk:List (List Pl)) (lo x:IN) (_:vs=[.ref b,.ref f,.ref g]) (_:rO n H b bk) (_:bk.length=n) (_:H f=some (.tup (lo.map V.int))) (_:okG n lo) (_:H g=some (.tup (x.map V.int))) (_:okG n x) (_:LeG lo x) (_:∀ (m:Nat) (r:Addr) (H':Hp),Stops (hdF bk lo) x m->aG H H'->H' r=some (.tup ((itF (hdF bk lo) x m).map V.int))->Q (.ref r) H')
def HW (bk:List (List Pl))(lo x:IN)(M:Nat)(b f:Addr)(H:Hp)(m:Nat)(σ:St)(H3:Hp):Prop:=∃ (t:Nat) (la:Addr) (gv:V),t+m=M+1/\σ=[oR b,oR f,some gv,oR la]/\aG H H3/\H3 la=some (.tup ((itF (hdF bk lo) x t).map V.int)) ∧
 ((t=0/\gv = .non)∨∃ (ga:Addr) (j:Nat),t=j+1/\gv = .ref ga/\H3 ga=some (.tup ((itF (hdF bk lo) x j).map V.int)))
theorem Mh {k:Nat} (F:Fun K "held" "held" Ig f fd) (B:Bt mg)
  (UY:Df P w K mg base "held_step" k X0 (Er K)):dF P w K mg base CX0 (k+1) f fd YY Fz:=by
 refine okA F qU fun H Q E hr h=>?_
 obtain⟨b,f,g,n,bk,lo,x,rfl,hB,lb,hf,ol,hg,ox,lx,q⟩:=h
 refine⟨_,(aq (sT 3 qU.nd (pv 2))
 (aq (sTc 2 qU.nd O6)
 (aq (o8 U3 (aU (r:=GC K) (J3 hr.gU) (pv 3) (pv 2)) (aq (sTc 2 qU.nd (pv 3))
 (aO (sT 3 qU.nd (bG (r:=fH K) bw U B.tuple_ bW (a1 (bh (L:=["pledges","low","step"]) (F:=["giving"]) (cap:=[2]) U (aV U U (by kernel_rfl)) (RM U B.zip_ (au (pv 0) (v2 1 2))) (fun _ _ _ _ _=>(du (K:=K) 3 U U (aQ (pgC 0) (aQ (pgC 1) (aQ (pgC 2) dw))))) (fun _ _ _ _ _=>bu) (fun _ _ _ _ _=>(aP UY hr (au (pv 0) (au (pv 1) (v2 2 3))))))))))))
 (sR (pv 2))))),?_⟩
 obtain⟨us0,hb,rb,l12⟩:=id hB
 have el:=rb.length
 obtain⟨M,hM,st⟩:=Ak lb ol ox lx
 have io:=yP lb ol ox lx
 refine⟨_,U,HW bk lo x M b f H,⟨M+1,0,g,.non,by lia,U,aG.refl _,hg,.inl ⟨U,U⟩⟩,?_⟩
 rintro m σ H3 ⟨t,la,gv,htm,rfl,s3,ela,hgv⟩
 obtain⟨og,olow,_⟩:=io t
 have s3b:=s3 _ _ hb
 have s3f:=s3 _ _ hf
 have key:∀ Q':VK,(1<=m->Q' (.bl true) H3)->(∀ (ga:Addr),gv = .ref ga->H3 ga=some (.tup ((itF (hdF bk lo) x M).map V.int))->Q' (.bl false) H3)->GC K (.ref la) gv H3 Q':=fun Q' hT hF=>by
  rcases hgv with⟨ht,rfl⟩ | ⟨ga,j,ht,rfl,ega⟩
  ·exact .inr ⟨la,_,U,U,sqT ela,hT (by lia)⟩
  ·refine .inl ⟨la,ga,_,_,U,U,sqT ela,sqT ega,?_⟩
   subst ht
   by_cases e:itF (hdF bk lo) x (j+1)=itF (hdF bk lo) x j
   ·rw[dcT e]
    have ej:j=M:=by
     rcases V0 j M with z | z
     ·exact absurd e (st.2 j z)
     ·lia
    subst ej
    exact hF ga U ega
   ·rw[dcF e]
    refine hT ?_
    rcases V0 j M with z | z
    ·lia
    ·have:j=M:=by lia
     subst this
     exact absurd st.1 e
 refine⟨_,U,_,U,key _ (fun h1=>⟨_,U,gF ⟨HW bk lo x M b f H (m - 1),fun σ' H' h=>⟨m - 1,by lia,h⟩,?_⟩⟩) fun ga hga ega=>⟨_,U,fC ⟨_,U,?_⟩⟩⟩
 ·refine⟨_,U,_,U,_,U,_,U,b,f,la,_,_,_,U,sqL s3b,sqT s3f,sqT ela,fun D hD=>Ou (K:=K) (a:=b) (b:=f) (c:=la) (xs:=us0) (ys:=lo.map V.int) (vs:=(itF (hdF bk lo) x t).map V.int) (by rw[Tw,ol.1];lia) (by rw[Tw,og.1];lia)
   (fun i zs σ' H4=>(∃ u v w,σ'=[u,v,w,oR la])/\zs=((Ui i).map fun i=>max (lo.getD i 0) (min ((itF (hdF bk lo) x t).getD i 0) (duF (itF (hdF bk lo) x t) 0 (bk.getD i [])))).map V.int/\aG H3 H4/\H4 D=some (.lst zs))
   ⟨⟨_,_,_,U⟩,U,aA hD _,aa⟩ (fun i zs σ' H4 _ h=>⟨sqL (h.2.2.1 _ _ s3b),sqT (h.2.2.1 _ _ s3f),sqT (h.2.2.1 _ _ ela),h.2.2.2⟩) ?_ ?_⟩
  ·rintro i zs y1 y2 y3 p σ' H4 hx hy hv hp ⟨⟨u,v,w,rfl⟩,e1,sm,hDl⟩
   obtain⟨c,as,ps,rfl,hps,hc,l100,rps⟩:=rb.get hx
   obtain⟨l1,hl1,rfl⟩:=int_at hy
   obtain⟨g1,hg1,rfl⟩:=int_at hv
   have hi:=(geS hx).1
   have gl:lo.getD i 0=l1:=by rw[TQ,hl1];rfl
   have gg:(itF (hdF bk lo) x t).getD i 0=g1:=by rw[TQ,hg1];rfl
   have gb:bk.getD i []=ps:=by rw[TQ,hps];rfl
   have l01:=(bQ ol (i:=i) (by lia)).1
   have llg:=olow i
   rw[gl] at l01
   rw[gl,gg] at llg
   generalize eH5:upd H4 p _=H5
   obtain⟨g5,e5⟩:=aC eH5 hp
   have s5:=sm.trans g5
   refine⟨p,_,U,sqT e5,U,_,_,U,_,_,U,_,_,U,U,?_⟩
   refine tT ?_
   refine⟨_,U,_,U,_,U,_,U,c,la,n,as,ps,_,l1,g1,U,(s3.trans s5) _ _ hc,l100,rps.aY (fun a xs q=>(s3.trans s5) a _ q),sqT (s5 _ _ ela),by rw[og.1];lia,l01,llg,fun H6 s6=>?_⟩
   refine⟨s6 _ _ (g5 _ _ hDl),?_,⟨_,_,_,U⟩,?_,aF (s5.trans s6) hD _,aa⟩
   ·rw[e1,Tw,Tw,UJ]
    exact aB (by lia)
   ·rw[e1,Xm,T9,T9,gb.symm,← gl,← gg]
    rfl
  ·rintro zs σ' H4 ⟨_,e1,sm,hDl⟩
   refine⟨D,_,U,.inl ⟨sqL hDl,fun l hl'=>⟨t+1,l,.ref la,by lia,U,s3.trans (sm.trans (aA hl' _)),?_,.inr ⟨la,t,U,U,aA hl' _ _ _ (sm _ _ ela)⟩⟩⟩⟩
   rw[aa,e1,el]
   rfl
 ·subst hga
  exact q M ga H3 st s3 ega
abbrev zz:Stmt:=top 20
theorem Af:aK ["book","floor","crowd","sure"] Zl (aD zz):=gC
inductive Ew (vs:Lo)(H:Hp)(Q:VK)(e3:XK):Prop where
 | mk (b f d:Addr) (n:Nat) (bk:List (List Pl)) (fl:IN) (c:IP) (_:vs=[.ref b,.ref f,.ref d]) (_:rO n H b bk) (_:bk.length=n) (_:H f=some (.tup (fl.map V.int))) (_:okG n fl) (_:H d=some (.lst (c.map vN))) (_:∀ (r:Addr) (z:IN) (H':Hp),aG H H'->H' r=some (.tup (z.map V.int))->(∀ lo,Low n fl bk lo->DG n fl bk lo c z)->Q (.ref r) H')
theorem Jm {k j:Nat} (hj:j<=k+1) (F:Fun K "alone" "alone" zz f fd) (B:Bt mg)
  (WP:Df P w K mg base "least" (k+1) ZI (mX Gy)) (UV:Df P w K mg base "greatest" (k+1) ZI (mX rfF)) (WS:Df P w K mg base "lifted" 1 YR sS) (UX:Df P w K mg base "held" j YY Fz) :
  dF P w K mg base CX0 (k+2) f fd Zl Ew:=by
 refine okA F Af fun H Q E hr h=>?_
 obtain⟨b,f,d,n,bk,fl,c,rfl,hB,lb,hf,of,hd,q⟩:=h
 refine⟨_,(aq (sT 3 Af.nd (aP WP hr (v2 0 1)))
 (sR (aP UX hr (au (pv 0) (au (pv 3) (a1 (aP WS hr (au (pv 3) (au (aP UV hr (v2 0 1)) (v1 2)))))))))),?_⟩
 have okb:=hB.okB
 have b12:n<=12:=by obtain⟨_,_,_,h⟩:=hB;lia
 refine⟨_,U,_,U,b,f,n,bk,fl,U,hB,lb,hf,of,fun m1 a1 H1 _ st1 s1 e1=>?_⟩
 have low:=cM lb okb of st1
 have clr:=fun {g:IN} (h:LeG (cU g fl bk) g)=>qY lb okb of h m1
 generalize itF (Fd fl bk) fl m1=lo at *
 refine gN ?_
 refine⟨_,U,_,U,_,U,_,U,_,U,b,f,n,bk,fl,U,hB.mono s1,lb,s1 _ _ hf,of,fun m2 a2 H2 _ st2 s2 e2=>?_⟩
 have oh:=gj lb okb of (jh lb okb of) m2
 have kep:=fun {g:IN} (h:LeG g (cU g fl bk))=>mU lb okb of h m2
 have fx:=st2.1
 have lh:LeG lo (itF (Fd fl bk) (rfF fl bk) m2):=clr (by rw[show cU (itF (Fd fl bk) (rfF fl bk) m2) fl bk=itF (Fd fl bk) (rfF fl bk) m2 from fx];exact dY _)
 generalize itF (Fd fl bk) (rfF fl bk) m2=hi at *
 have s12:=s1.trans s2
 refine⟨_,U,a1,a2,d,lo,hi,c,U,s2 _ _ e1,e2,s12 _ _ hd,by rw[low.1.1,oh.1],by rw[low.1.1];lia,fun a3 H3 s3 e3=>?_⟩
 refine⟨b,a1,a3,n,bk,lo,_,U,hB.mono (s12.trans s3),lb,(s2.trans s3) _ _ e1,low.1,e3,cX low.1 oh c,Ol low.1 lh c,fun m3 r H4 st3 s4 e4=>?_⟩
 refine q r _ H4 (s12.trans (s3.trans s4)) e4 fun lo' hlo'=>?_
 rw[hlo'.uniq low]
 exact Ac lb okb of low oh lh (fun w _ hw=>kep hw) st3
abbrev lQ:Stmt:=top 48
theorem wA:aK Yf Yf (aD lQ):=gC
inductive Aq (vs:Lo)(H:Hp)(Q:VK)(e3:XK):Prop where
 | mk (b f:Addr) (n:Nat) (bk:List (List Pl)) (fl:IN) (_:vs=[.ref b,.ref f]) (_:rO n H b bk) (_:bk.length=n) (_:H f=some (.tup (fl.map V.int))) (_:okG n fl) (_:∀ (r:Addr) (z:IN) (H':Hp),aG H H'->H' r=some (.tup (z.map V.int))->Low n fl bk z->Q (.ref r) H')
theorem vL {k:Nat} (F:Fun K "_law_least" "_law_least" lQ f fd) (B:Bt mg)
  (WI:Df P w K mg base "_law_step_by_step" k XO zy):dF P w K mg base CX0 (k+1) f fd Yf Aq:=by
 refine okA F wA fun H Q E hr h=>?_
 obtain⟨b,f,n,bk,fl,rfl,hB,lb,hf,of,q⟩:=h
 refine⟨_,(sR (aP WI hr (au (pv 0) (v2 1 1)))),?_⟩
 have okb:=hB.okB
 refine⟨_,U,_,U,_,U,b,f,f,n,bk,fl,fl,true,U,hB,lb,hf,of,hf,of,?_,fun r z H' s1 e1 lm=>q r z H' s1 e1 (sO lb okb of lm)⟩
 unfold Dir
 rw[iPo U]
 exact f9 lb okb of fl
abbrev lV:Stmt:=top 47
theorem cP:aK ["_law_book_here","_law_floor","_law_base","_law_crowd_here","_law_here","_law_turn","_law_ahead","_law_at","_law_step"] XG (aD lV):=gC
def dst (fl:IN)(bk:List (List Pl))(g:IN)(i:Nat):IN:=g.set i (min (g.getD i 0) (duF g (fl.getD i 0) (bk.getD i [])))
def dsw (fl:IN)(bk:List (List Pl))(c:IP)(g:IN):IN:=c.foldl (dst fl bk) g
def Ov (n:Nat)(fl:IN)(bk:List (List Pl))(lo:IN)(c:IP)(g:IN):Prop:=okG n g/\(∀ i < n,i ∉ c->g.getD i 0=lo.getD i 0)/\∀ w,InS n fl bk lo c w->LeG w g
section
variable {n:Nat}{fl:IN}{bk:List (List Pl)}{lo:IN}{c:IP}
theorem Jw {g:IN}{i j:Nat}{v:Int}(h:i < g.length):(g.set i v).getD j 0=if j=i then v else g.getD j 0:=by
 rw[TQ,List.getElem?_set]
 by_cases e:i=j
 ·subst e
  rw[iPo U,iPo h,iPo U]
  rfl
 ·rw[iNe e,iNe (fun z=>e z.symm),TQ]
theorem xP (hb:bk.length=n)(hf:okG n fl){g:IN}(hg:okG n g){i:Nat}(hi:i < n)(j:Nat):(dst fl bk g i).getD j 0=if j=i then min (g.getD i 0) ((cU g fl bk).getD i 0) else g.getD j 0:=by
 unfold dst
 rw[Jw (by rw[hg.1];exact hi),cR hb hf g hi,pF g (bQ hf hi).1]
theorem FN (hb:bk.length=n)(ok:okB bk)(hf:okG n fl){g:IN}(hg:okG n g){i:Nat}(hi:i < n):okG n (dst fl bk g i)/\LeG (dst fl bk g i) g:=by
 have hl:(dst fl bk g i).length=n:=by unfold dst;rw[Xn];exact hg.1
 refine⟨qG hl fun j hj=>?_,jB hl hg.1 fun j hj=>?_⟩
 ·rw[xP hb hf hg hi j]
  have:=bQ hg hj
  have:=bQ (cj hb ok hf g) hi
  have:=bQ hg hi
  split <;> lia
 ·rw[xP hb hf hg hi j]
  split
  ·rename_i e
   rw[e]
   lia
  ·exact Vj _
theorem Ln (hb:bk.length=n)(ok:okB bk)(hf:okG n fl){g:IN}(h:Ov n fl bk lo c g){i:Nat}(hi:i < n)(hc:i∈c):Ov n fl bk lo c (dst fl bk g i):=by
 obtain⟨hg,h1,h2⟩:=h
 obtain⟨o1,_⟩:=FN hb ok hf hg hi
 refine⟨o1,fun j hj hjc=>?_,fun w hw=>jB hw.1.1 o1.1 fun j hj=>?_⟩
 ·rw[xP hb hf hg hi j,iNe (fun z=>hjc (by rw[z];exact hc))]
  exact h1 j hj hjc
 ·rw[xP hb hf hg hi j]
  have a:=h2 w hw j
  split
  ·rename_i e
   subst e
   have b:=hw.2.2.2 j
   have d:=eV hb ok hf (h2 w hw) j
   lia
  ·exact a
theorem vV (hb:bk.length=n)(ok:okB bk)(hf:okG n fl):∀ (d:IP) {g:IN},(∀ i∈d,i < n/\i∈c)->Ov n fl bk lo c g->Ov n fl bk lo c (dsw fl bk d g)/\LeG (dsw fl bk d g) g
 | [],g,_,h=>⟨h,dY _⟩
 | i::d,g,hd,h=>by
  have hi:=hd i TY
  obtain⟨h1,h2⟩:=vV hb ok hf d (fun j hj=>hd j (TX _ hj)) (Ln hb ok hf h hi.1 hi.2)
  exact⟨h1,h2.trans (FN hb ok hf h.1 hi.1).2⟩
theorem Fw (hb:bk.length=n)(ok:okB bk)(hf:okG n fl):∀ (d:IP) {g:IN},(∀ i∈d,i < n/\i∈c)->Ov n fl bk lo c g->dsw fl bk d g=g->∀ i∈d,dst fl bk g i=g
 | [],_,_,_,_=>fun i hi=>by cases hi
 | i::d,g,hd,h,e=>by
  have hi:=hd i TY
  have hd':=fun j hj=>hd j (TX _ hj)
  have o1:=Ln hb ok hf h hi.1 hi.2
  obtain⟨h1,h2⟩:=vV hb ok hf d hd' o1
  obtain⟨k1,k2⟩:=FN hb ok hf h.1 hi.1
  have e':dsw fl bk d (dst fl bk g i)=g:=e
  have e1:dst fl bk g i=g:=bU (by rw[k1.1,h.1.1]) k2 (by rw[e'] at h2;exact h2)
  rw[e1] at e'
  intro j hj
  rcases List.mem_cons.mp hj with rfl | hj
  ·exact e1
  ·exact Fw hb ok hf d hd' h e' j hj
theorem Mm (hb:bk.length=n)(ok:okB bk)(hf:okG n fl)(hlo:Low n fl bk lo)(hc:∀ i∈c,i < n){g:IN}(h:Ov n fl bk lo c g)(e:dsw fl bk c g=g):DG n fl bk lo c g:=by
 have fx:=Fw hb ok hf c (fun i hi=>⟨hc i hi,hi⟩) h e
 have inlo:InS n fl bk lo c lo:=⟨hlo.1,fun _ _ _=>U,dY _,by rw[hlo.2.1];exact dY _⟩
 have lg:=h.2.2 lo inlo
 refine⟨⟨h.1,h.2.1,lg,jB h.1.1 (cj hb ok hf g).1 fun i hi=>?_⟩,h.2.2⟩
 by_cases hic:i∈c
 ·have a:=xP hb hf h.1 hi i
  rw[fx i hic,iPo U] at a
  lia
 ·have a:=eV hb ok hf lg i
  rw[hlo.2.1] at a
  rw[h.2.1 i hi hic]
  exact a
theorem v8 {u v:Nat->Int}:∀ (c:IP),(∀ i∈c,u i<=v i)->(c.map u).sum<=(c.map v).sum/\((c.map u).sum=(c.map v).sum->∀ i∈c,u i=v i)
 | [],_=>⟨Vj _,fun _ i hi=>by cases hi⟩
 | a::c,h=>by
  obtain⟨h1,h2⟩:=v8 c fun i hi=>h i (TX _ hi)
  have h3:=h a TY
  rw[U6,U6,Yk,Yk]
  refine⟨by lia,fun e i hi=>?_⟩
  rcases List.mem_cons.mp hi with rfl | hi
  ·lia
  ·exact h2 (by lia) i hi
theorem oM {u:Nat->Int}:∀ (c:IP),(∀ i∈c,0<=u i/\u i<=9)->0<=(c.map u).sum/\(c.map u).sum<=9 * (c.length:Int)
 | [],_=>⟨Vj _,by simp⟩
 | a::c,h=>by
  have:=oM c fun i hi=>h i (TX _ hi)
  have:=h a TY
  rw[U6,Yk,Um]
  lia
theorem Ex (hb:bk.length=n)(ok:okB bk)(hf:okG n fl)(hc:∀ i∈c,i < n){x:IN}(hx:Ov n fl bk lo c x):∀ m,Ov n fl bk lo c (itF (dsw fl bk c) x m)
 | 0=>hx
 | m+1=>(vV hb ok hf c (fun i hi=>⟨hc i hi,hi⟩) (Ex hb ok hf hc hx m)).1
theorem GJ (hb:bk.length=n)(ok:okB bk)(hf:okG n fl)(hc:∀ i∈c,i < n){x:IN}(hx:Ov n fl bk lo c x):∃ m,m<=9 * c.length/\Stops (dsw fl bk c) x m:=by
 have it:=Ex hb ok hf hc hx
 have bd:∀ m,0<=(c.map fun i=>(itF (dsw fl bk c) x m).getD i 0).sum/\(c.map fun i=>(itF (dsw fl bk c) x m).getD i 0).sum<=9 * (c.length:Int):=fun m=>oM c fun i hi=>bQ (it m).1 (hc i hi)
 refine j6 (fun g=>9 * (c.length:Int) - (c.map fun i=>g.getD i 0).sum) (9 * c.length) (fun k=>?_) (fun k=>?_) fun k hk=>?_
 ·have:=bd k
  lia
 ·have:=bd k
  lia
 ·obtain⟨h1,h2⟩:=vV hb ok hf c (fun i hi=>⟨hc i hi,hi⟩) (it k)
  obtain⟨s1,s2⟩:=v8 (u:=fun i=>(dsw fl bk c (itF (dsw fl bk c) x k)).getD i 0) (v:=fun i=>(itF (dsw fl bk c) x k).getD i 0) c fun i _=>h2 i
  have:(c.map fun i=>(dsw fl bk c (itF (dsw fl bk c) x k)).getD i 0).sum≠(c.map fun i=>(itF (dsw fl bk c) x k).getD i 0).sum:=fun z=>hk (by
   refine bU (by rw[h1.1.1,(it k).1.1]) h2 (jB (it k).1.1 h1.1.1 fun i hi=>?_)
   by_cases hic:i∈c
   ·exact Int.le_of_eq (s2 z i hic).symm
   ·rw[(it k).2.1 i hi hic,h1.2.1 i hi hic]
    exact Vj _)
  show 9 * (c.length:Int) - (c.map fun i=>(itF (dsw fl bk c) x k).getD i 0).sum < 9 * (c.length:Int) - (c.map fun i=>(dsw fl bk c (itF (dsw fl bk c) x k)).getD i 0).sum
  lia
def upC (n:Nat)(lo:IN)(c:IP):IN:=(Ui n).map fun i=>if i∈c then 9 else lo.getD i 0
theorem Hk {i:Nat}(hi:i < n):(upC n lo c).getD i 0=if i∈c then 9 else lo.getD i 0:=by
 unfold upC
 rw[TQ,Uo,Wd hi]
 rfl
theorem QG (hlo:okG n lo):Ov n fl bk lo c (upC n lo c):=by
 have hl:(upC n lo c).length=n:=by unfold upC;rw[Tw,UJ]
 refine⟨qG hl fun i hi=>?_,fun i hi hc=>by rw[Hk hi,iNe hc],fun w hw=>jB hw.1.1 hl fun i hi=>?_⟩
 ·rw[Hk hi]
  have:=bQ hlo hi
  split <;> lia
 ·rw[Hk hi]
  split
  ·exact (bQ hw.1 hi).2
  ·rename_i hc
   rw[hw.2.1 i hi hc]
   exact Vj _
end
section
variable {K:UT}{σ:St}{H:Hp}{Q:V->Hp->Prop}{i j:Nat}{a:Addr}{k:Nat}{xs:Lo}
theorem Th {te:TE}{v:V}(hi:σ[i]? = some (some (.ref a)))(hj:σ[j]? = some (some (.int (k:Int))))(hv:∀ H1 Q',aG H H1->Q' v H1->te σ H1 Q')(ha:H a=some (.tup xs))(hk:k < xs.length)(hl:xs.length<=40)(h:∀ p H',aG H H'->H' p=some (.tup (xs.set k v))->Q (.ref p) H') :
  tOp (iB K) (tOp (iB K) (tSl (Br K) (lF i) lC (zq (lF j))) (O1 (dI te uz))) (tSl (Br K) (lF i) (zq (tOp (rI0 fun i j=>.int (i+j)) (lF j) (tC (.int 1)))) lC) σ H Q:=by
 refine slT hi hj ha hk fun p1 H1 s1 e1=>?_
 refine hv H1 _ s1 ⟨smN 1,fun p2 h2=>?_⟩
 generalize eH3:upd H1 p2 _=H3
 obtain⟨g3,e3⟩:=aC eH3 h2
 refine OJ (g3 _ _ e1) e3 (by rw[Uj];show min k xs.length+1<=1000;lia) fun p4 H4 s4 e4=>?_
 have s14:aG H H4:=s1.trans (g3.trans s4)
 refine slD hi hj (s14 _ _ ha) hk fun p5 H5 s5 e5=>?_
 refine OJ (s5 _ _ e4) e5 (by rw[Uh,Uj,V4];show min k xs.length+1+(xs.length - (k+1))<=1000;lia) fun p6 H6 s6 e6=>?_
 refine h p6 H6 (s14.trans (s5.trans s6)) ?_
 rw[e6,Y7,iPo hk,Wk]
 rfl
end
inductive vo (vs:Lo)(H:Hp)(Q:VK)(e3:XK):Prop where
 | mk (b f g d:Addr) (n:Nat) (bk:List (List Pl)) (fl lo:IN) (c:IP) (_:vs=[.ref b,.ref f,.ref g,.ref d]) (_:rO n H b bk) (_:bk.length=n) (_:H f=some (.tup (fl.map V.int))) (_:okG n fl) (_:H g=some (.tup (lo.map V.int))) (_:Low n fl bk lo) (_:H d=some (.lst (c.map vN))) (_:(∀ i∈c,i < n)) (_:c.length<=12) (_:∀ (r:Addr) (z:IN) (H':Hp),aG H H'->H' r=some (.tup (z.map V.int))->DG n fl bk lo c z->Q (.ref r) H')
theorem wz {k:Nat} (F:Fun K "_law_alone" "_law_alone" lV f fd) (B:Bt mg)
  (Wp:Df P w K mg base "_law_owed" k X2 (Ho K)):dF P w K mg base CX0 (k+1) f fd XG vo:=by
 refine okA F cP fun H Q E hr h=>?_
 obtain⟨b,f,g,d,n,bk,fl,lo,c,rfl,hB,lb,hf,of,hg,low,hd,hc,c12,q⟩:=h
 refine⟨_,(aq (sT 4 cP.nd (bG (r:=fH K) bw U B.tuple_ bW (a1 (bh (L:=["_law_at"]) (F:=["_law_crowd_here","_law_base"]) (cap:=[3,2]) U (aV U U (by kernel_rfl)) (bM U B.range_ (a1 (pln K B.len_ (pv 0)))) (fun _ _ _ _ _=>(pgC 0)) (fun _ _ _ _ _=>bu) (fun _ _ _ _ _=>(Be (nQ (r:=rIn K false) iJ (pv 0) (pv 1) U) aj (pxT K (pv 2) (pv 0))))))))
 (aq (cW U3 U (bM U B.range_ (a1 (aH bF (aH gY aj (pln K B.len_ (pv 3))) aj))) (pgN 5 cP.nd) (aq (sT 6 cP.nd (pv 4))
 (aq (cW U3 U (cB (pv 3)) (pgN 7 cP.nd) (aq (sT 8 cP.nd (aL (qX U) U B.max_ oF (au (pxT K (pv 1) (pv 7)) (a1 (aP Wp hr (au (pxL K (pv 0) (pv 7)) (v1 4)))))))
 (aO (sT 4 cP.nd (aH (r:=iB K) jj (aH (r:=iB K) jj (eX (r:=Br K) qN (pv 4) jo (gm (pv 7))) (bD (a1 (aL (pU U) U B.min_ GD (au (pxT K (pv 4) (pv 7)) (v1 8)))))) (eX (r:=Br K) qN (pv 4) (gm (aH bF (pv 7) aj)) jo))))))
 (aO (ifR (aU (r:=vD K) (kW hr.gU) (pv 4) (pv 6)) (pv 4))))))
 (sR (pv 4)))),?_⟩
 have okb:=hB.okB
 obtain⟨us0,hb,rb,l12⟩:=id hB
 have lu0:=rb.length
 have x0:=QG (n:=n) (fl:=fl) (bk:=bk) (lo:=lo) (c:=c) low.1
 have lc:(c.map vN).length=c.length:=Tw ..
 refine⟨_,U,b,_,U,.inl (sqL hb),_,U,by lia,by lia,fun D hD=>dH (lo:=0) (n:=us0.length) (fun i zs σ' H2=>(∃ u,σ'=[u,oR d,oR g])/\zs=((Ui i).map fun i=>if i∈c then (9:Int) else lo.getD i 0).map V.int/\aG H H2/\H2 D=some (.lst zs))
  ⟨⟨_,U⟩,U,aA hD _,aa⟩ (fun i zs σ' H2 _ h=>h.2.2.2) ?_ ?_⟩
 ·rintro i zs σ' H2 hi ⟨⟨u,rfl⟩,e1,sm,eD⟩
  have hil:i < lo.length:=by rw[low.1.1];lia
  have gi:lo.getD i 0=lo[i]:=by rw[TQ,TJ hil];rfl
  have lz:zs.length < sizeLine:=aB (by rw[e1,Tw,Tw,UJ];lia)
  have nx:∀ z:Int,z=(if i∈c then (9:Int) else lo.getD i 0)->zs++[.int z]=((Ui (i+1)).map fun i=>if i∈c then (9:Int) else lo.getD i 0).map V.int:=fun z ez=>by
   rw[ez,e1,Xm,T9,T9]
   rfl
  refine gT ?_
  refine⟨_,U,_,U,d,_,U,.inl (sqL (sm _ _ hd)),U,qC c,_,U,?_⟩
  rw[Wt,pB]
  by_cases e:i∈c
  ·rw[dcT e]
   exact gF ⟨eD,lz,⟨_,U⟩,nx _ (by rw[iPo e]),aF sm hD _,aa⟩
  ·rw[dcF e]
   exact fC ⟨_,U,_,U,g,_,_,_,U,U,sqT (sm _ _ hg),jJ hil,eD,lz,⟨_,U⟩,nx _ (by rw[iNe e,gi]),aF sm hD _,aa⟩
 ·rintro zs σ' H2 ⟨_,e1,sm,eD⟩
  refine⟨D,_,U,.inl ⟨sqL eD,fun l hl'=>?_⟩⟩
  generalize eH3:upd H2 l _=H3
  obtain⟨g3,e3⟩:=aC eH3 hl'
  have eh:H3 l=some (.tup ((upC n lo c).map V.int)):=by
   rw[e3,e1,show us0.length=n by lia]
   rfl
  have s03:=sm.trans g3
  generalize upC n lo c=x at *
  obtain⟨m,hm,st⟩:=GJ lb okb of hc x0
  have io:=Ex lb okb of hc x0
  refine gN ?_
  refine⟨_,U,d,_,U,.inl (sqL (s03 _ _ hd)),_,_,U,U,.inl ⟨by decide,by decide⟩,_,_,U,U,_,U,by lia,by lia,fc (lo:=0) (n:=(9 * ((c.map vN).length:Int)+1).toNat) (fun t σ H4=>∃ (hh:Addr) (u0 u1 u2 u3:Lc),σ=[oR b,oR f,oR g,oR d,oR hh,u0,u1,u2,u3]/\aG H H4/\H4 hh=some (.tup ((itF (dsw fl bk c) x t).map V.int))/\t<=m)
   ⟨l,_,_,_,_,U,s03,eh,Uw _⟩ ?_ ?_⟩
  ·rintro t σ H4 ht ⟨hh,u0,u1,u2,u3,rfl,s4,ehh,htm⟩
   refine⟨_,U,?_⟩
   refine⟨_,U,d,U,⟨_,sqL (s4 _ _ hd)⟩,jb (K:=K) (a:=d) (xs:=c.map vN) (fun i σ H5=>∃ (h2:Addr) (v0 v1:Lc),σ=[oR b,oR f,oR g,oR d,oR h2,some (.int (0+(t:Int))),oR hh,v0,v1]/\aG H4 H5/\H5 h2=some (.tup ((dsw fl bk (c.take i) (itF (dsw fl bk c) x t)).map V.int)))
    ⟨hh,_,_,U,aG.refl _,by rw[Vs];exact ehh⟩ (fun i σ H5 _ ⟨_,_,_,_,h,_⟩=>sqL (h _ _ (s4 _ _ hd))) ?_ ?_⟩
   ·rintro i y σ H5 hy ⟨h2,v0,v1,rfl,s5,e2⟩
    obtain⟨ka,hka,rfl⟩:=pM hy
    have kin:=Ud hka
    have hkn:=hc ka kin
    obtain⟨ov,_⟩:=vV lb okb of (c.take i) (fun j hj=>⟨hc j (Xx hj),Xx hj⟩) (io t)
    have enext:dsw fl bk (c.take (i+1)) (itF (dsw fl bk c) x t)=dst fl bk (dsw fl bk (c.take i) (itF (dsw fl bk c) x t)) ka:=by
     unfold dsw
     rw[Ux,hka]
     show ((c.take i)++[ka]).foldl _ _=_
     rw[abz]
     rfl
    generalize dsw fl bk (c.take i) (itF (dsw fl bk c) x t)=gs at *
    have og:=ov.1
    have hfi:ka < fl.length:=by rw[of.1];exact hkn
    have hgi:ka < gs.length:=by rw[og.1];exact hkn
    have hui:ka < us0.length:=by lia
    have hy':us0[ka]? = some us0[ka]:=TJ hui
    obtain⟨cc,as,ps,ec,hps,hcc,l100,rps⟩:=rb.get hy'
    have at2:atI us0 (ka:Int)=some (.ref cc):=by rw[← ec];exact gZ hy'
    have s45:=s4.trans s5
    have hf0:=(of.2 fl[ka] (VD hfi)).1
    refine⟨_,U,_,U,f,_,_,_,U,U,sqT (s45 _ _ hf),jJ hfi,_,U,_,U,b,_,_,_,U,U,sqL (s45 _ _ hb),at2,_,U,cc,h2,n,as,ps,gs,U,s45 _ _ hcc,l100,rps.aY (fun a xs q=>s45 a _ q),sqT e2,by rw[og.1];lia,fun H6 s6=>?_⟩
    refine⟨_,_,U,?_⟩
    have ez:(if duF gs 0 ps > fl[ka] then duF gs 0 ps else fl[ka])=duF gs fl[ka] ps:=by
     rw[pF gs hf0 ps]
     split <;> lia
    rw[ez]
    refine gN ?_
    dsimp only
    have e6:=s6 _ _ e2
    refine Th (k:=ka) (v:=.int (min gs[ka] (duF gs fl[ka] ps))) U U (fun H7 Q' s7 hq=>?_) e6 (by rw[Tw];exact hgi) (by rw[Tw,og.1];lia) fun p7 H7 s7 e7=>?_
    ·refine⟨_,U,_,U,h2,_,_,_,U,U,sqT (s7 _ _ e6),jJ hgi,_,U,_,_,U,?_⟩
     rw[show (if duF gs fl[ka] ps < gs[ka] then duF gs fl[ka] ps else gs[ka])=min gs[ka] (duF gs fl[ka] ps) by split <;> lia]
     exact hq
    ·refine⟨p7,_,_,U,s5.trans (s6.trans s7),?_⟩
     rw[e7,enext]
     unfold dst
     have eb:bk.getD ka []=ps:=by rw[TQ,hps];rfl
     have ef:fl.getD ka 0=fl[ka]:=by rw[TQ,TJ hfi];rfl
     have eg:gs.getD ka 0=gs[ka]:=by rw[TQ,TJ hgi];rfl
     rw[eb,ef,eg,List.map_set]
   ·rintro σ H5 ⟨h2,v0,v1,rfl,s5,e2⟩
    rw[lc,Ul] at e2
    refine⟨_,U,_,U,h2,hh,_,_,U,U,sqT e2,sqT (s5 _ _ ehh),_,U,?_⟩
    by_cases e:dsw fl bk c (itF (dsw fl bk c) x t)=itF (dsw fl bk c) x t
    ·rw[dcT e]
     refine gF ⟨_,U,?_⟩
     rw[e] at e2
     exact q h2 _ H5 (s4.trans s5) e2 (Mm lb okb of low hc (io t) e)
    ·rw[dcF e]
     refine fC ⟨h2,_,_,_,_,U,s4.trans s5,e2,?_⟩
     rcases V0 t m with z | z
     ·exact z
     ·have:t=m:=by lia
      subst this
      exact absurd st.1 e
  ·rintro σ H4 ⟨hh,u0,u1,u2,u3,rfl,s4,ehh,htm⟩
   lia
section
variable {n:Nat}{fl lo:IN}{bk:List (List Pl)}
theorem HR (hb:bk.length=n)(ok:okB bk)(hf:okG n fl)(hlo:Low n fl bk lo){x:IN}(hx:okG n x)(l:LeG lo x){c:IP}(hc:∀ i < n,i ∉ c->x.getD i 0=lo.getD i 0)(hup:∀ w,InS n fl bk lo c w->LeG w x){m:Nat}(st:Stops (hdF bk lo) x m):DG n fl bk lo c (itF (hdF bk lo) x m):=by
 obtain⟨h1,h2,h3⟩:=yP hb hlo.1 hx l m
 have fx:=st.1
 refine⟨⟨h1,fun i hi' hci=>?_,h2,?_⟩,fun w hw=>?_⟩
 ·have a:=h2 i
  have b:=h3 i
  rw[hc i hi' hci] at b
  lia
 ·refine jP (by rw[h1.1,(cj hb ok hf _).1]) fun i hi'=>?_
  rw[h1.1] at hi'
  have e:=rR (bk:=bk) (lo:=lo) (g:=itF (hdF bk lo) x m) (i:=i) (by lia)
  rw[fx] at e
  rw[cR hb hf _ hi']
  have a:=cR hb hf lo hi'
  rw[hlo.2.1] at a
  have b:=mL hb ok h2 hi'
  lia
 ·have:∀ j,LeG w (itF (hdF bk lo) x j):=by
   intro j
   induction j with
   | zero=>exact hup w hw
   | succ j ih=>exact Aw hb ok hf hlo hw.1 hw.2.2.2 ih
  exact this m
theorem Ql (hb:bk.length=n)(ok:okB bk)(hf:okG n fl)(hlo:Low n fl bk lo)(c:IP):∃ g,DG n fl bk lo c g:=by
 have o9:okG n (Ur n (9:Int)):=⟨We,fun x hx=>by rw[(List.mem_replicate.mp hx).2];decide⟩
 have r9:∀ i < n,(Ur n (9:Int)).getD i 0=9:=fun i hi=>by rw[TQ,Y5,iPo hi];rfl
 have up9:∀ w:IN,okG n w->LeG w (Ur n (9:Int)):=fun w hw=>jB hw.1 o9.1 fun i hi=>by
  rw[r9 i hi]
  exact (bQ hw hi).2
 have l:=up9 lo hlo.1
 obtain⟨m,_,st⟩:=Ak hb hlo.1 (cX hlo.1 o9 c) (Ol hlo.1 l c)
 exact⟨_,Ac hb ok hf hlo o9 l (fun w hw _=>up9 w hw) st⟩
open Classical in
def al (n:Nat)(fl:IN)(bk:List (List Pl))(lo:IN)(c:IP):IN:=if h:∃ g,DG n fl bk lo c g then h.choose else lo
theorem d7 (hb:bk.length=n)(ok:okB bk)(hf:okG n fl)(hlo:Low n fl bk lo)(c:IP):DG n fl bk lo c (al n fl bk lo c):=by
 have h:=Ql hb ok hf hlo c
 unfold al
 rw[dif_pos h]
 exact h.choose_spec
theorem Mj (hb:bk.length=n)(ok:okB bk)(hf:okG n fl)(hlo:Low n fl bk lo){c:IP}{g:IN}(h:DG n fl bk lo c g):g=al n fl bk lo c:=h.uniq (d7 hb ok hf hlo c)
theorem InS.mono {c d:IP}{g:IN}(h:InS n fl bk lo c g)(s:∀ i < n,i∈c->i∈d):InS n fl bk lo d g:=⟨h.1,fun i hi hd=>h.2.1 i hi fun z=>hd (s i hi z),h.2.2⟩
theorem tO (hb:bk.length=n)(ok:okB bk)(hf:okG n fl)(hlo:Low n fl bk lo){c d:IP}(s:∀ i < n,i∈c->i∈d):LeG (al n fl bk lo c) (al n fl bk lo d):=(d7 hb ok hf hlo d).2 _ ((d7 hb ok hf hlo c).1.mono s)
theorem jz (hb:bk.length=n)(ok:okB bk)(hf:okG n fl)(hlo:Low n fl bk lo)(c:IP):(al n fl bk lo c).length=n:=(d7 hb ok hf hlo c).1.1.1
def ris (n:Nat)(lo g:IN):IP:=(Ui n).filter fun i=>decide (lo.getD i 0 < g.getD i 0)
theorem ir {g:IN}{i:Nat}:i∈ris n lo g ↔ i < n/\lo.getD i 0 < g.getD i 0:=by
 unfold ris
 rw[aaJ,List.mem_range]
 simp
theorem yJ {c:IP}{g:IN}(h:InS n fl bk lo c g){i:Nat}(hi:i∈ris n lo g):i∈c:=by
 obtain⟨h1,h2⟩:=ir.mp hi
 refine Xj fun z=>?_
 have:=h.2.1 i h1 z
 lia
theorem Ot {c:IP}{g:IN}(h:InS n fl bk lo c g):InS n fl bk lo (ris n lo g) g:=by
 refine⟨h.1,fun i hi hn=>?_,h.2.2⟩
 have a:=h.2.2.1 i
 have b:¬ lo.getD i 0 < g.getD i 0:=fun z=>hn (ir.mpr ⟨hi,z⟩)
 lia
theorem Fb (hb:bk.length=n)(ok:okB bk)(hf:okG n fl)(hlo:Low n fl bk lo)(c:IP):al n fl bk lo (ris n lo (al n fl bk lo c))=al n fl bk lo c:=by
 have m:=d7 hb ok hf hlo c
 refine bU (by rw[jz hb ok hf hlo,jz hb ok hf hlo]) (tO hb ok hf hlo fun i hi=>yJ m.1) ?_
 exact (d7 hb ok hf hlo _).2 _ (Ot m.1)
theorem NK (hb:bk.length=n)(ok:okB bk)(hf:okG n fl)(hlo:Low n fl bk lo){c:IP}(h:ris n lo (al n fl bk lo c)=[]):al n fl bk lo c=lo:=by
 have m:=d7 hb ok hf hlo c
 refine bU (by rw[jz hb ok hf hlo,hlo.1.1]) (jB (jz hb ok hf hlo c) hlo.1.1 fun i hi=>?_) m.1.2.2.1
 have:i ∉ ris n lo (al n fl bk lo c):=by rw[h];simp
 have h':¬ lo.getD i 0 < (al n fl bk lo c).getD i 0:=fun z=>this (ir.mpr ⟨hi,z⟩)
 lia
theorem Ky:ris n lo lo=[]:=by
 unfold ris
 rw[List.filter_eq_nil_iff]
 intro i _
 simp
theorem qJ {g:IN}{one:Nat}(hg:g.length=n)(hl:lo.length=n):ris n lo (lfF g lo [one])=(ris n lo g).filter fun i=>decide (i≠one):=by
 unfold ris
 rw[abg]
 refine abA fun i hi=>?_
 have hi':=List.mem_range.mp hi
 rw[oK (by rw[hg];exact hi')]
 by_cases e:i=one
 ·subst e
  simp
 ·simp [e]
theorem zp (hb:bk.length=n)(ok:okB bk)(hf:okG n fl)(hlo:Low n fl bk lo){c:IP}(hcl:ris n lo (al n fl bk lo c)=c){one:Nat}{m:Nat}(st:Stops (hdF bk lo) (lfF (al n fl bk lo c) lo [one]) m) :
  itF (hdF bk lo) (lfF (al n fl bk lo c) lo [one]) m=al n fl bk lo (c.filter fun i=>decide (i≠one)):=by
 have mx:=d7 hb ok hf hlo c
 have lg:=jz hb ok hf hlo c
 have ox:okG n (lfF (al n fl bk lo c) lo [one]):=cX mx.1.1 hlo.1 [one]
 have at1:∀ i < n,(lfF (al n fl bk lo c) lo [one]).getD i 0=if i∈[one] then lo.getD i 0 else (al n fl bk lo c).getD i 0:=fun i hi=>oK (by rw[lg];exact hi)
 have lx:LeG lo (lfF (al n fl bk lo c) lo [one]):=jB hlo.1.1 ox.1 fun i hi=>by
  rw[at1 i hi]
  split
  ·exact Vj _
  ·exact mx.1.2.2.1 i
 refine Mj hb ok hf hlo (HR hb ok hf hlo ox lx (fun i hi hn=>?_) (fun w hw=>?_) st)
 ·rw[at1 i hi]
  split
  ·rfl
  ·rename_i hne
   have:i ∉ c:=fun z=>hn (List.mem_filter.mpr ⟨z,dcT fun q=>hne (by rw[q];exact List.mem_singleton.mpr U)⟩)
   exact mx.1.2.1 i hi this
 ·refine jB hw.1.1 ox.1 fun i hi=>?_
  rw[at1 i hi]
  split
  ·rename_i he
   rw[hw.2.1 i hi (fun z=>by
    have:=(List.mem_filter.mp z).2
    rw[List.mem_singleton.mp he] at this
    simp at this)]
   exact Vj _
  ·exact (mx.2 w (hw.mono fun i _ z=>(List.mem_filter.mp z).1)) i
def Knot (n:Nat)(fl:IN)(bk:List (List Pl))(lo:IN)(c:IP):Prop:=al n fl bk lo c≠lo/\∀ one∈c,al n fl bk lo (c.filter fun i=>decide (i≠one))=lo
theorem Ad (hb:bk.length=n)(ok:okB bk)(hf:okG n fl)(hlo:Low n fl bk lo){c:IP}(hk:Knot n fl bk lo c){i:Nat}(hi:i∈c):i∈ris n lo (al n fl bk lo c):=by
 refine Xj fun z=>hk.1 ?_
 rw[← Fb hb ok hf hlo c]
 have le:LeG (al n fl bk lo (ris n lo (al n fl bk lo c))) lo:=by
  have h0:LeG (al n fl bk lo (ris n lo (al n fl bk lo c))) (al n fl bk lo (c.filter fun j=>decide (j≠i))):=tO hb ok hf hlo fun j hj hr=>List.mem_filter.mpr ⟨yJ (d7 hb ok hf hlo c).1 hr,dcT (p:=j≠i) fun q=>z (q▸hr)⟩
  rw[hk.2 i hi] at h0
  exact h0
 exact bU (by rw[jz hb ok hf hlo,hlo.1.1]) le (d7 hb ok hf hlo _).1.2.2.1
end
theorem nJ {p:Nat->Bool}(i:Nat):(Ui (i+1)).filter p=(Ui i).filter p++if p i=true then [i] else []:=by
 rw[Xm,Yd,W0,aaL]
theorem dG (p:Nat->Bool):∀ n,(Ui n).filter p∈aW n
 | 0=>List.mem_singleton.mpr U
 | n+1=>by
  rw[nJ]
  have ih:=dG p n
  show _∈aW n++(aW n).map fun c=>c++[n]
  by_cases e:p n=true
  ·rw[iPo e]
   exact List.mem_append.mpr (.inr (List.mem_map.mpr ⟨_,ih,U⟩))
  ·rw[iNe e,Wa]
   exact List.mem_append.mpr (.inl ih)
theorem fY:∀ n,(aW n).length=2 ^ n
 | 0=>rfl
 | n+1=>by
  show (aW n++(aW n).map fun c=>c++[n]).length=_
  rw[Uh,Tw,fY n,Nat.pow_succ]
  lia
theorem dh {α:Type}[DecidableEq α]:∀ {l m:List α},l.Nodup->(∀ a∈l,a∈m)->l.length<=m.length
 | [],_,_,_=>Uw _
 | a::l,m,nd,h=>by
  have ha:=h a TY
  obtain⟨na,nl⟩:=List.nodup_cons.mp nd
  have:=dh (m:=m.erase a) nl fun b hb=>(aaX fun z=>na (by rw[← z];exact hb)).mpr (h b (TX _ hb))
  rw[aal ha] at this
  have:0 < m.length:=List.length_pos_of_mem ha
  rw[Um]
  lia
theorem d8 {n:Nat}{c:IP}(hr:c.Pairwise (· < ·))(hn:∀ i∈c,i < n):(Ui n).filter (fun i=>decide (i∈c))=c:=by
 have s1:((Ui n).filter fun i=>decide (i∈c)).Pairwise (· < ·):=List.pairwise_lt_range.filter _
 have m:∀ i,i∈(Ui n).filter (fun i=>decide (i∈c)) ↔ i∈c:=fun i=>by
  rw[aaJ,List.mem_range]
  simp
  exact hn i
 generalize (Ui n).filter (fun i=>decide (i∈c))=d at *
 clear hn
 induction d generalizing c with
 | nil =>
  cases c with
  | nil=>rfl
  | cons x c=>exact absurd ((m x).mpr TY) (by simp)
 | cons y d ih =>
  cases c with
  | nil=>exact absurd ((m y).mp TY) (by simp)
  | cons x c =>
   rw[Wu] at s1 hr
   have hxy:y=x:=by
    rcases List.mem_cons.mp ((m y).mp TY) with h | h
    ·exact h
    ·rcases List.mem_cons.mp ((m x).mpr TY) with h' | h'
     ·exact h'.symm
     ·have:=hr.1 y h
      have:=s1.1 x h'
      lia
   subst hxy
   refine congrArg _ (ih hr.2 s1.2 fun i=>⟨fun h=>?_,fun h=>?_⟩)
   ·rcases List.mem_cons.mp ((m i).mp (TX _ h)) with z | z
    ·have:=s1.1 i h
     lia
    ·exact z
   ·rcases List.mem_cons.mp ((m i).mpr (TX _ h)) with z | z
    ·have:=hr.1 i h
     lia
    ·exact z
section
variable {n:Nat}{fl lo:IN}{bk:List (List Pl)}
theorem mZ (g:IN):(ris n lo g).Pairwise (· < ·):=List.pairwise_lt_range.filter _
theorem Dn (hb:bk.length=n)(ok:okB bk)(hf:okG n fl)(hlo:Low n fl bk lo){S:Iy}(cl:∀ c∈S,ris n lo (al n fl bk lo c)=c){W:IP}(hW:W∈S)(top:∀ c:IP,∀ i∈ris n lo (al n fl bk lo c),i∈W)
  (step:∀ c∈S,c≠[]->∀ one∈c,ris n lo (al n fl bk lo (c.filter fun i=>decide (i≠one)))∈S) {k:IP} (hr:k.Pairwise (· < ·)) (hn:∀ i∈k,i < n) (hk:Knot n fl bk lo k):k∈S:=by
 have main:∀ (m:Nat) (c:IP),c.length<=m->c∈S->(∀ i∈k,i∈c)->k∈S:=by
  intro m
  induction m with
  | zero =>
   intro c hl hc hs
   have:c=[]:=List.length_eq_zero_iff.mp (by lia)
   subst this
   have:k=[]:=by
    cases k with
    | nil=>rfl
    | cons x _=>exact absurd (hs x TY) (by simp)
   rw[this]
   exact hc
  | succ m ih =>
   intro c hl hc hs
   by_cases e:∀ i∈c,i∈k
   ·have hcr:c.Pairwise (· < ·):=by rw[← cl c hc];exact mZ _
    have hcn:∀ i∈c,i < n:=fun i hi=>by rw[← cl c hc] at hi;exact (ir.mp hi).1
    have:k=c:=by
     rw[← d8 hr hn,← d8 hcr hcn]
     refine abA fun i _=>decide_eq_decide.mpr ⟨fun h=>?_,fun h=>?_⟩
     ·exact hs i (by simpa using h)
     ·exact e i (by simpa using h)
    rw[this]
    exact hc
   ·have ⟨one,h1,h2⟩:∃ one,one∈c/\one ∉ k:=by
     refine Xj fun z=>e fun i hi=>Xj fun q=>z ⟨i,hi,q⟩
    have c0:c≠[]:=fun z=>by rw[z] at h1;cases h1
    have mem:=step c hc c0 one h1
    have sub:∀ i∈ris n lo (al n fl bk lo (c.filter fun i=>decide (i≠one))),i∈c.filter fun i=>decide (i≠one):=fun i hi=>yJ (d7 hb ok hf hlo _).1 hi
    have ndr:(ris n lo (al n fl bk lo (c.filter fun i=>decide (i≠one)))).Nodup:=(mZ _).imp fun h=>Uq h
    have l1:=dh ndr sub
    have l2:(c.filter fun i=>decide (i≠one)).length < c.length:=by
     rw[aaP]
     exact⟨one,h1,by simp⟩
    refine ih _ (by lia) mem fun i hi=>?_
    have a:=Ad hb ok hf hlo hk hi
    obtain⟨a1,a2⟩:=ir.mp a
    have b:=tO hb ok hf hlo (c:=k) (d:=c.filter fun i=>decide (i≠one)) (fun j _ hj=>List.mem_filter.mpr ⟨hs j hj,dcT fun q=>h2 (q▸hj)⟩) i
    exact ir.mpr ⟨a1,by lia⟩
 refine main W.length W (Ua _) hW fun i hi=>top k i (Ad hb ok hf hlo hk hi)
end
abbrev uL:Stmt:=top 21
theorem DW:aK ZH ZH (aD uL):=gC
inductive uJ (vs:Lo)(H:Hp)(Q:VK)(e3:XK):Prop where
 | mk (f g:Addr) (n:Nat) (lo x:IN) (_:vs=[.ref f,.ref g]) (_:n<=12) (_:H f=some (.tup (lo.map V.int))) (_:okG n lo) (_:H g=some (.tup (x.map V.int))) (_:okG n x) (_:∀ (r:Addr) (H':Hp),aG H H'->H' r=some (.tup ((ris n lo x).map vN))->Q (.ref r) H')
theorem FZ (F:Fun K "risers" "risers" uL f fd) (B:Bt mg) :
  dF P w K mg base CX0 1 f fd ZH uJ:=by
 refine okA F DW fun H Q E hr h=>?_
 obtain⟨f,g,n,lo,y,rfl,b12,hf,ol,hg,oy,q⟩:=h
 refine⟨_,(sR (bG (r:=fH K) bw U B.tuple_ bW (a1 (bh (L:=["one","step"]) (F:=["sure"]) (cap:=[0]) U (aV U U (by kernel_rfl)) (uK U B.enumerate_ (v1 1)) (fun _ _ _ _ _=>(du (K:=K) 2 U U (aQ (pgC 0) (aQ (pgC 1) dw)))) (fun _ _ _ _ _=>(qM (aU tZ (pv 1) (pxT K (pv 2) (pv 0))))) (fun _ _ _ _ _=>(pv 0)))))),?_⟩
 refine⟨_,U,g,_,U,sqT hg,fun D hD=>nD (K:=K) (a:=g) (xs:=y.map V.int) (fun i zs σ' H3=>(∃ u v,σ'=[u,v,oR f])/\aG H H3/\H3 D=some (.lst zs)/\zs=((Ui i).filter fun j=>decide (lo.getD j 0 < y.getD j 0)).map vN)
  ⟨⟨_,_,U⟩,aA hD _,aa,U⟩ (fun i zs σ' H3 _ h=>⟨sqT (h.2.1 _ _ hg),h.2.2.1⟩) ?_ ?_⟩
 ·rintro i zs x p σ' H3 hx hp ⟨⟨u,v,rfl⟩,sm,eD,ez⟩
  obtain⟨y1,hy1,rfl⟩:=int_at hx
  have hin:=(geS hy1).1
  generalize eH4:upd H3 p _=H4
  obtain⟨g4,e4⟩:=aC eH4 hp
  have s4:=sm.trans g4
  refine⟨p,_,U,sqT e4,U,_,_,U,_,_,U,U,?_⟩
  have hih:i < lo.length:=by rw[ol.1,← oy.1];exact hin
  have gy:y.getD i 0=y1:=by rw[TQ,hy1];rfl
  have gi:lo.getD i 0=lo[i]:=by rw[TQ,TJ hih];rfl
  have lz:zs.length<=i:=by
   rw[ez,Tw]
   exact Vd (Wn _ _) (by rw[UJ];exact Ua _)
  have l12:i<=12:=by have:=oy.1;lia
  refine⟨_,U,_,U,_,U,f,_,_,_,U,U,sqT (s4 _ _ hf),jJ hih,_,_,U,U,_,U,?_⟩
  by_cases c1:y1 > lo[i]
  ·rw[dcT c1]
   refine gF ⟨_,U,g4 _ _ eD,aB (by lia),⟨_,_,U⟩,aF s4 hD _,aa,?_⟩
   rw[nJ,iPo (by rw[gy,gi];exact dcT c1),T9,← ez]
   rfl
  ·rw[dcF c1]
   refine fC ⟨⟨_,_,U⟩,s4,g4 _ _ eD,?_⟩
   rw[nJ,iNe (by rw[gy,gi];simp only[decide_eq_true_eq];exact c1),Wa]
   exact ez
 ·rintro zs σ' H3 ⟨_,sm,eD,rfl⟩
  refine⟨D,_,U,.inl ⟨sqL eD,fun l hl'=>?_⟩⟩
  refine q l _ (sm.trans (aA hl' _)) ?_
  rw[aa,Tw,oy.1]
  rfl
def kc (c:IP):List Key:=c.map fun i:Nat=>(aax (i:Int):Key)
theorem Q5 (c:IP):(kc c).map kV=c.map vN:=by
 unfold kc
 rw[W4]
 rfl
theorem Qw {c d:IP}(h:kc c=kc d):c=d:=by
 unfold kc at h
 exact (List.map_inj_right fun a b e=>by
  have:(a:Int)=(b:Int):=Sum.inl.inj e
  lia).mp h
def xY (n:Nat)(fl:IN)(bk:List (List Pl))(lo:IN)(H:Hp)(kvs:KU):Prop :=
 (kvs.map (·.1)).Nodup/\∀ p∈kvs,∃ (c:IP) (a:Addr),c∈aW n/\p.1=kc c/\p.2 = .ref a/\H a=some (.tup ((al n fl bk lo c).map V.int))
section
variable {n:Nat}{fl lo:IN}{bk:List (List Pl)}{H H':Hp}{kvs:KU}
theorem xY.aY (h:xY n fl bk lo H kvs)(e:∀ a xs,H a=some (HO.tup xs)->H' a=some (HO.tup xs)):xY n fl bk lo H' kvs :=
 ⟨h.1,fun p hp=>by
  obtain⟨c,a,h1,h2,h3,h4⟩:=h.2 p hp
  exact⟨c,a,h1,h2,h3,e _ _ h4⟩⟩
theorem xY.len (h:xY n fl bk lo H kvs):kvs.length<=2 ^ n:=by
 have:=dh (m:=(aW n).map kc) h.1 fun k hk=>by
  obtain⟨p,hp,rfl⟩:=List.mem_map.mp hk
  obtain⟨c,a,h1,h2,_⟩:=h.2 p hp
  rw[h2]
  exact List.mem_map.mpr ⟨c,h1,U⟩
 rw[Tw,Tw,fY] at this
 exact this
theorem xY.get (h:xY n fl bk lo H kvs){c:IP}{v:V}(e:j8 kvs (kc c)=some v):∃ a,v = .ref a/\H a=some (.tup ((al n fl bk lo c).map V.int)):=by
 unfold j8 at e
 obtain⟨p,hp,rfl⟩:=Option.map_eq_some_iff.mp e
 obtain⟨c',a,_,h2,h3,h4⟩:=h.2 p (YB hp)
 have k1:p.1=kc c:=by simpa using YQ hp
 have:c'=c:=Qw (by rw[← h2,k1])
 subst this
 exact⟨a,h3,h4⟩
theorem xY.put (h:xY n fl bk lo H kvs){c:IP}(hc:c∈aW n){a:Addr}(ha:H a=some (.tup ((al n fl bk lo c).map V.int)))(e:j8 kvs (kc c)=none):xY n fl bk lo H (putK kvs (kc c) (.ref a)):=by
 rw[pG _ e]
 refine⟨?_,fun p hp=>?_⟩
 ·rw[T9]
  show (_++[kc c]).Nodup
  refine List.nodup_append.mpr ⟨h.1,by simp,fun x hx y hy=>?_⟩
  rw[List.mem_singleton.mp hy]
  obtain⟨p,hp,rfl⟩:=List.mem_map.mp hx
  intro z
  unfold j8 at e
  have:=List.find?_eq_none.mp (Option.map_eq_none_iff.mp e) p hp
  exact this (dcT z)
 ·rcases List.mem_append.mp hp with z | z
  ·exact h.2 p z
  ·rw[List.mem_singleton.mp z]
   exact⟨c,a,hc,U,U,ha⟩
end
theorem pN {H:Hp}{D:Addr}{k:KU}{o:HO}(h:H D=some (.dT k)):∀ a xs,H a=some (HO.tup xs)->upd H D o a=some (HO.tup xs):=fun a xs q=>by
 rw[aR (fun z=>by rw[z,h] at q;cases q)]
 exact q
abbrev pZ:Stmt:=top 22
theorem iD:aK ["book","sure","giving","known","rows","one","start","crowd"] X9 (aD pZ):=gC
def wo (c:IP)(one:Nat):IP:=c.filter fun i=>decide (i≠one)
inductive Bq (vs:Lo)(H:Hp)(Q:VK)(e3:XK):Prop where
 | mk (b f g d:Addr) (n:Nat) (bk:List (List Pl)) (fl lo:IN) (c:IP) (kvs:KU) (H0:Hp) (_:vs=[.ref b,.ref f,.ref g,.ref d]) (_:n<=12) (_:aG H0 H) (_:H0 d=none) (_:rO n H0 b bk) (_:bk.length=n) (_:okG n fl) (_:H0 f=some (.tup (lo.map V.int))) (_:Low n fl bk lo) (_:H g=some (.tup ((al n fl bk lo c).map V.int))) (_:ris n lo (al n fl bk lo c)=c) (_:H d=some (.dT kvs)) (_:xY n fl bk lo H kvs) (_:∀ (r:Addr) (us:Lo) (kvs':KU) (H':Hp),aG H0 H'->(∀ a o,a≠d->H a=some o->H' a=some o)->H r=none->H' r=some (.lst us)->gG H' us (c.map fun one=>al n fl bk lo (wo c one))->H' d=some (.dT kvs')->xY n fl bk lo H' kvs'->Q (.ref r) H')
theorem Ds {k:Nat} (F:Fun K "put_off" "put_off" pZ f fd) (B:Bt mg)
  (W1:Df P w K mg base "risers" 1 ZH uJ) (WS:Df P w K mg base "lifted" 1 YR sS) (UX:Df P w K mg base "held" (k+1) YY Fz) :
  dF P w K mg base CX0 (k+2) f fd X9 Bq:=by
 refine okA F iD fun H Q E hr h=>?_
 obtain⟨b,f,g,d,n,bk,fl,lo,c,kvs0,H0,rfl,n12,s0,d0,hB,lb,of,hf,low,hg,hcl,hd,kn,q⟩:=h
 refine⟨_,(aq (sT 4 iD.nd (aX cY))
 (aq (cW U3 U (fX (aP W1 hr (v2 1 2))) (pgN 5 iD.nd) (aq (sT 6 iD.nd (aP WS hr (au (pv 2) (au (pv 1) (a1 (aX (v1 5)))))))
 (aq (sT 7 iD.nd (aP W1 hr (v2 1 6)))
 (aq (iz (Gi (xQ hr.vG (pv 7) (pv 3))) (aO (Ij hr.vG (pv 3) (pv 7) (aP UX hr (au (pv 0) (v2 1 6))) U)) cQ)
 (aO (cu (jF Uz Vb Va bI (pv 4) (a1 (Oo hr.vG (pv 3) (pv 7) (fun _ _=>U))))))))))
 (sR (pv 4)))),?_⟩
 have okb:=hB.okB
 have oc:okG n (al n fl bk lo c):=(d7 lb okb of low c).1.1
 have p12:2 ^ n<=4096:=by
  have:2 ^ n<=2 ^ 12:=Wx (by decide) n12
  simpa using this
 have cn:∀ i∈c,i < n:=fun i hi=>by rw[← hcl] at hi;exact (ir.mp hi).1
 have c12:c.length<=12:=by
  rw[← hcl]
  exact Vd (Wn _ _) (by rw[UJ];exact n12)
 refine⟨smN 0,fun R hR=>?_⟩
 generalize eHa:upd H R _=Ha
 obtain⟨ga,ea⟩:=aC eHa hR
 have nRd:R≠d:=fun z=>by rw[z,hd] at hR;cases hR
 refine⟨_,U,_,U,f,g,n,lo,_,U,n12,(s0.trans ga) _ _ hf,low.1,ga _ _ hg,oc,fun ra H1 s1 era=>?_⟩
 rw[hcl] at era
 have sa1:=ga.trans s1
 have s01:=s0.trans sa1
 have R0:H0 R=none:=s0.free hR
 refine⟨ra,U,⟨_,sqT era⟩,qQ (K:=K) (a:=ra) (xs:=c.map vN) (fun i σ Hx=>∃ (us:Lo) (kvs:KU) (u5 u6 u7:Lc),σ=[oR b,oR f,oR g,oR d,oR R,u5,u6,u7]/\aG H0 Hx/\(∀ a o,a≠d->a≠R->H1 a=some o->Hx a=some o)/\Hx R=some (.lst us)/\Hx d=some (.dT kvs)/\xY n fl bk lo Hx kvs/\gG Hx us ((c.take i).map fun one=>al n fl bk lo (wo c one)))
  ⟨[],kvs0,_,_,_,U,s01,fun a o _ _ e=>e,s1 _ _ ea,sa1 _ _ hd,kn.aY fun a xs e=>sa1 _ _ e,by rw[Vs];exact .nil⟩ (fun i σ Hx _ h=>?_) ?_ ?_⟩
 ·obtain⟨_,_,_,_,_,_,_,kb,_⟩:=h
  exact sqT (kb _ _ (fun z=>by have:=sa1 _ _ hd;rw[← z,era] at this;cases this) (fun z=>by have:=s1 _ _ ea;rw[← z,era] at this;cases this) era)
 ·rintro i x σ Hx hx ⟨us,kvs,u5,u6,u7,rfl,sx,kb,eR,ed,kx,gx⟩
  obtain⟨one,hone,rfl⟩:=pM hx
  have onen:=cn one (Ud hone)
  refine gN ?_
  have gxH:Hx g=some (.tup ((al n fl bk lo c).map V.int)):=kb _ _ (fun z=>by rw[z,hd] at hg;cases hg) (fun z=>by rw[z,hR] at hg;cases hg) (sa1 _ _ hg)
  have lus:=gx.length
  rw[Tw,Uj] at lus
  have ox:=cX oc low.1 [one]
  refine jD (fun σ Hc=>∃ a4:Addr,σ=[oR b,oR f,oR g,oR d,oR R,some (vN one),oR a4,u7]/\aG Hx Hc/\Hc a4=some (.tup ((lfF (al n fl bk lo c) lo [one]).map V.int))) ?_ ?_
  ·intro N Rc
   refine⟨_,U,_,U,_,U,smN 1,fun p3 h3=>?_⟩
   generalize eHb:upd Hx p3 _=Hb
   obtain⟨gb,eb⟩:=aC eHb h3
   exact⟨g,f,p3,_,lo,[one],U,gb _ _ gxH,(sx.trans gb) _ _ hf,eb,by rw[oc.1,low.1.1],by rw[oc.1];lia,fun a4 Hc sc e4=>Rc _ _ ⟨a4,U,gb.trans sc,e4⟩⟩
  rintro σ Hc ⟨a4,rfl,sxc,e4⟩
  refine jD (fun σ Hd=>∃ a5:Addr,σ=[oR b,oR f,oR g,oR d,oR R,some (vN one),oR a4,oR a5]/\aG Hc Hd/\Hd a5=some (.tup ((wo c one).map vN))) ?_ ?_
  ·intro N Rc
   refine⟨_,U,_,U,f,a4,n,lo,_,U,n12,(sx.trans sxc) _ _ hf,low.1,e4,ox,fun a5 Hd sd e5=>?_⟩
   rw[qJ oc.1 low.1.1,hcl] at e5
   exact Rc _ _ ⟨a5,U,sd,e5⟩
  rintro σ Hd ⟨a5,rfl,sd,e5⟩
  have sxd:=sxc.trans sd
  have hcr:wo c one∈aW n:=by
   have:=dG (fun i=>decide (lo.getD i 0 < (lfF (al n fl bk lo c) lo [one]).getD i 0)) n
   have e:ris n lo (lfF (al n fl bk lo c) lo [one])=wo c one:=by rw[qJ oc.1 low.1.1,hcl];rfl
   rw[← e]
   exact this
  have e5k:Hd a5=some (.tup ((kc (wo c one)).map kV)):=by rw[Q5];exact e5
  refine jD (fun σ He=>∃ (kvs:KU) (ao:Addr),σ=[oR b,oR f,oR g,oR d,oR R,some (vN one),oR a4,oR a5]/\aG H0 He/\(∀ a o,a≠d->Hd a=some o->He a=some o)/\He d=some (.dT kvs)/\xY n fl bk lo He kvs/\j8 kvs (kc (wo c one))=some (.ref ao)/\He ao=some (.tup ((al n fl bk lo (wo c one)).map V.int))) ?_ ?_
  ·intro N Rc
   have edd:=sxd _ _ ed
   refine⟨_,U,_,U,d,j8 kvs (kc (wo c one)),U,Il.t edd e5k,_,U,?_⟩
   cases hv:j8 kvs (kc (wo c one)) with
   | some v =>
    obtain⟨ao,rfl,eao⟩:=kx.get hv
    exact fC (Rc _ _ ⟨kvs,ao,U,sx.trans sxd,fun a o _ e=>e,edd,kx.aY fun a xs e=>sxd _ _ e,hv,sxd _ _ eao⟩)
   | none =>
    refine gF ⟨_,U,_,U,_,U,b,f,a4,n,bk,lo,_,U,hB.mono (sx.trans sxd),lb,(sx.trans sxd) _ _ hf,low.1,sd _ _ e4,ox,?_,fun m r He st se er=>?_⟩
    ·refine jB low.1.1 ox.1 fun j hj=>?_
     rw[oK (by rw[oc.1];exact hj)]
     split
     ·exact Vj _
     ·exact (d7 lb okb of low c).1.2.2.1 j
    rw[zp lb okb of low hcl st] at er
    have ede:=se _ _ edd
    have kxe:=kx.aY fun a xs e=>(sxd.trans se) _ _ e
    refine⟨_,U,_,U,d,_,U,O3.t ede (se _ _ e5k) (X8 kx.len (X8 p12 (by decide))),?_⟩
    refine Rc _ _ ⟨_,r,U,aF ((sx.trans sxd).trans se) d0 _,fun a o na e=>by rw[aR na];exact se _ _ e,aa,(kxe.put hcr er hv).aY (pN ede),by rw[Jt,iPo U],pN ede _ _ er⟩
  rintro σ He ⟨kvs',ao,rfl,s0e,kbe,ede,kne,hv,eao⟩
  have eRe:He R=some (.lst us):=kbe _ _ nRd (sxd _ _ eR)
  have e5e:He a5=some (.tup ((kc (wo c one)).map kV)):=kbe _ _ (fun z=>by have:=sxd _ _ ed;rw[← z,e5] at this;cases this) e5k
  refine⟨_,U,.inl ⟨U,_,sqL eRe⟩,_,U,_,U,d,_,U,hv▸Il.t ede e5e,R,us,_,U,U,eRe,aB (by lia),us++[.ref ao],kvs',_,_,_,U,aF s0e R0 _,fun a o na nr e=>by rw[aR nr];exact kbe _ _ na (sxd _ _ (kb _ _ na nr e)),aa,by rw[aR nRd.symm];exact ede,kne.aY (bO eRe),?_⟩
  rw[Ux,hone,T9]
  have gxe:gG He us ((c.take i).map fun one=>al n fl bk lo (wo c one)):=gx.aY fun a xs e=>kbe _ _ (fun z=>by rw[z,ed] at e;cases e) (sxd _ _ e)
  exact (gG.snoc eao (by rw[jz lb okb of low];lia) gxe).aY (bO eRe)
 ·rintro σ Hx ⟨us,kvs,u5,u6,u7,rfl,sx,kb,eR,ed,kx,gx⟩
  rw[Tw,Ul] at gx
  exact⟨_,U,q R us kvs Hx sx (fun a o na e=>kb a o na (fun z=>by rw[z,hR] at e;cases e) (sa1 _ _ e)) hR eR gx ed kx⟩
def kg (g:IN):List Key:=g.map fun i:Int=>(aax i:Key)
theorem Nz (g:IN):(kg g).map kV=g.map V.int:=by
 unfold kg
 rw[W4]
 rfl
theorem LC {c d:IN}(h:kg c=kg d):c=d:=by
 unfold kg at h
 exact (List.map_inj_right fun a b e=>by
  have:a=b:=Sum.inl.inj e
  exact this).mp h
theorem gG.Ld {H:Hp}:∀ {us:Lo} {gs:IA} {g:IN},gG H us (gs++[g])->∃ (us':Lo) (a:Addr),us=us'++[.ref a]/\gG H us' gs/\H a=some (.tup (g.map V.int))
 | _,[],_,.cons h l .nil=>⟨[],_,U,.nil,h⟩
 | _,x::gs,g,.cons h l r=>by
  obtain⟨us',a,e,r',ha⟩:=gG.Ld (gs:=gs) r
  exact⟨_::us',a,by rw[e];rfl,.cons h l r',ha⟩
inductive LF (H0 H:Hp):Lo->Iy->Prop where
 | nil:LF H0 H [] []
 | cons {a:Addr} {c:IP} {us:Lo} {cs:Iy}:H a=some (.lst (c.map vN))->H0 a=none->LF H0 H us cs->LF H0 H (.ref a::us) (c::cs)
section
variable {n:Nat}{fl lo hi:IN}{bk:List (List Pl)}
theorem qu (hb:bk.length=n)(ok:okB bk)(hf:okG n fl)(hlo:Low n fl bk lo):al n fl bk lo []=lo:=by
 have m:=d7 hb ok hf hlo []
 refine bU (by rw[jz hb ok hf hlo,hlo.1.1]) (jB (jz hb ok hf hlo []) hlo.1.1 fun i hi=>?_) m.1.2.2.1
 rw[m.1.2.1 i hi (by simp)]
 exact Vj _
theorem O4 (hb:bk.length=n)(ok:okB bk)(hf:okG n fl)(hlo:Low n fl bk lo)(oh:okG n hi)(fx:cU hi fl bk=hi)(hup:∀ g,LeG g (cU g fl bk)->LeG g hi)(lh:LeG lo hi):al n fl bk lo (ris n lo hi)=hi:=by
 have e:al n fl bk lo (Ui n)=hi:=by
  refine (Mj hb ok hf hlo ⟨⟨oh,fun i h1 h2=>absurd (List.mem_range.mpr h1) h2,lh,?_⟩,fun w hw=>hup w hw.2.2.2⟩).symm
  rw[fx]
  exact dY _
 have:=Fb hb ok hf hlo (Ui n)
 rw[e] at this
 exact this
theorem Nh (hb:bk.length=n)(ok:okB bk)(hf:okG n fl)(hlo:Low n fl bk lo)(hup:∀ g,LeG g (cU g fl bk)->LeG g hi)(c:IP){i:Nat}(h:i∈ris n lo (al n fl bk lo c)):i∈ris n lo hi:=by
 obtain⟨h1,h2⟩:=ir.mp h
 have:=hup _ (d7 hb ok hf hlo c).1.2.2.2 i
 exact ir.mpr ⟨h1,by lia⟩
structure Eb (n:Nat)(fl:IN)(bk:List (List Pl))(lo hi:IN)(S A F:Iy):Prop where
 cl:∀ c∈S,ris n lo (al n fl bk lo c)=c
 nd:S.Nodup
 e0:[]∈S
 tp:ris n lo hi∈S
 aS:∀ c∈A,c∈S/\c≠[]
 aN:A.Nodup
 st:∀ c∈S,c ∉ A->c≠[]->∀ one∈c,ris n lo (al n fl bk lo (wo c one))∈S
 fN:F.Nodup
 fI:∀ c,c∈F ↔ c∈S/\c ∉ A/\c≠[]/\Knot n fl bk lo c
theorem Eb.len {S A F:Iy}(h:Eb n fl bk lo hi S A F):S.length<=2 ^ n:=by
 have:=dh (m:=aW n) h.nd fun c hc=>by
  rw[← h.cl c hc]
  exact dG _ n
 rw[fY] at this
 exact this
theorem Eb.done {S F:Iy}(hb:bk.length=n)(ok:okB bk)(hf:okG n fl)(hlo:Low n fl bk lo)(hup:∀ g,LeG g (cU g fl bk)->LeG g hi)(h:Eb n fl bk lo hi S [] F)(c:IP):c∈F ↔ c.Pairwise (· < ·)/\(∀ i∈c,i < n)/\Knot n fl bk lo c:=by
 rw[h.fI]
 refine⟨fun⟨h1,_,_,h4⟩=>?_,fun⟨h1,h2,h3⟩=>?_⟩
 ·refine⟨?_,fun i hi'=>?_,h4⟩
  ·rw[← h.cl c h1]
   exact mZ _
  ·rw[← h.cl c h1] at hi'
   exact (ir.mp hi').1
 ·refine⟨Dn hb ok hf hlo h.cl h.tp (fun c i hi'=>Nh hb ok hf hlo hup c hi') (fun c hc c0 one ho=>h.st c hc (by simp) c0 one ho) h1 h2 h3,by simp,fun z=>?_,h3⟩
  rw[z] at h3
  exact h3.1 (qu hb ok hf hlo)
theorem Eb.turn {S A F:Iy}{c:IP}{N:Iy}(hb:bk.length=n)(ok:okB bk)(hf:okG n fl)(hlo:Low n fl bk lo)(h:Eb n fl bk lo hi S (A++[c]) F)(n1:N.Nodup)(n2:∀ d∈N,d ∉ S/\ris n lo (al n fl bk lo d)=d)
  (all:∀ one∈c,ris n lo (al n fl bk lo (wo c one))∈S++N) {F':Iy} (hF:F'=if (∀ one∈c,al n fl bk lo (wo c one)=lo) then F++[c] else F):Eb n fl bk lo hi (S++N) (A++N) F':=by
 obtain⟨cS,c0⟩:=h.aS c (List.mem_append.mpr (.inr (List.mem_singleton.mpr U)))
 have cA:c ∉ A:=fun z=>(List.nodup_append.mp h.aN).2.2 c z c (List.mem_singleton.mpr U) U
 have cN:c ∉ N:=fun z=>(n2 c z).1 cS
 have alc:al n fl bk lo c≠lo:=fun z=>c0 (by rw[← h.cl c cS,z,Ky])
 have kn:Knot n fl bk lo c ↔ ∀ one∈c,al n fl bk lo (wo c one)=lo:=⟨fun k=>k.2,fun k=>⟨alc,k⟩⟩
 have cF:c ∉ F:=fun z=>((h.fI c).mp z).2.1 (List.mem_append.mpr (.inr (List.mem_singleton.mpr U)))
 have nn0:∀ d∈N,d≠[]:=fun d hd z=>(n2 d hd).1 (by rw[z];exact h.e0)
 refine⟨fun d hd=>?_,?_,List.mem_append.mpr (.inl h.e0),List.mem_append.mpr (.inl h.tp),fun d hd=>?_,?_,fun d hd hA d0 one ho=>?_,?_,fun d=>?_⟩
 ·rcases List.mem_append.mp hd with z | z
  ·exact h.cl d z
  ·exact (n2 d z).2
 ·exact List.nodup_append.mpr ⟨h.nd,n1,fun a ha b hb' e=>(n2 b hb').1 (e▸ha)⟩
 ·rcases List.mem_append.mp hd with z | z
  ·obtain⟨a,b⟩:=h.aS d (List.mem_append.mpr (.inl z))
   exact⟨List.mem_append.mpr (.inl a),b⟩
  ·exact⟨List.mem_append.mpr (.inr z),nn0 d z⟩
 ·exact List.nodup_append.mpr ⟨(List.nodup_append.mp h.aN).1,n1,fun a ha b hb' e=>(n2 b hb').1 (e▸(h.aS a (List.mem_append.mpr (.inl ha))).1)⟩
 ·have hdN:d ∉ N:=fun z=>hA (List.mem_append.mpr (.inr z))
  have hdA:d ∉ A:=fun z=>hA (List.mem_append.mpr (.inl z))
  have hdS:d∈S:=by
   rcases List.mem_append.mp hd with z | z
   ·exact z
   ·exact absurd z hdN
  by_cases e:d=c
  ·subst e
   exact all one ho
  ·refine List.mem_append.mpr (.inl (h.st d hdS (fun z=>?_) d0 one ho))
   rcases List.mem_append.mp z with z | z
   ·exact hdA z
   ·exact e (List.mem_singleton.mp z)
 ·rw[hF]
  split
  ·exact List.nodup_append.mpr ⟨h.fN,by simp,fun a ha b hb' e=>cF (by rw[← List.mem_singleton.mp hb',← e];exact ha)⟩
  ·exact h.fN
 ·have old:d≠c->(d∈F ↔ d∈S++N/\d ∉ A++N/\d≠[]/\Knot n fl bk lo d):=fun ne=>by
   rw[h.fI d]
   refine⟨fun⟨a1,a2,a3,a4⟩=>⟨List.mem_append.mpr (.inl a1),fun z=>?_,a3,a4⟩,fun⟨a1,a2,a3,a4⟩=>⟨?_,fun z=>?_,a3,a4⟩⟩
   ·rcases List.mem_append.mp z with z | z
    ·exact a2 (List.mem_append.mpr (.inl z))
    ·exact (n2 d z).1 a1
   ·rcases List.mem_append.mp a1 with z | z
    ·exact z
    ·exact absurd (List.mem_append.mpr (.inr z)) a2
   ·rcases List.mem_append.mp z with z | z
    ·exact a2 (List.mem_append.mpr (.inl z))
    ·exact ne (List.mem_singleton.mp z)
  rw[hF]
  by_cases k:∀ one∈c,al n fl bk lo (wo c one)=lo
  ·rw[iPo k,aaK,WY]
   by_cases e:d=c
   ·subst e
    exact⟨fun _=>⟨List.mem_append.mpr (.inl cS),fun z=>by
     rcases List.mem_append.mp z with z | z
     ·exact cA z
     ·exact cN z,c0,kn.mpr k⟩,fun _=>.inr U⟩
   ·rw[← old e]
    exact⟨fun z=>z.resolve_right e,fun z=>.inl z⟩
  ·rw[iNe k]
   by_cases e:d=c
   ·subst e
    exact⟨fun z=>absurd z cF,fun z=>absurd (kn.mp z.2.2.2) k⟩
   ·exact old e
end
theorem LF.keep {H0 H H':Hp}(k:∀ (a:Addr) (c:IP),H0 a=none->H a=some (HO.lst (c.map vN))->H' a=some (HO.lst (c.map vN))):∀ {us:Lo} {cs:Iy},LF H0 H us cs->LF H0 H' us cs
 | _,_,.nil=>.nil
 | _,_,.cons h1 h2 r=>.cons (k _ _ h2 h1) h2 (LF.keep k r)
theorem LF.snoc {H0 H:Hp}{a:Addr}{c:IP}(h1:H a=some (.lst (c.map vN)))(h2:H0 a=none):∀ {us:Lo} {cs:Iy},LF H0 H us cs->LF H0 H (us++[.ref a]) (cs++[c])
 | _,_,.nil=>.cons h1 h2 .nil
 | _,_,.cons k1 k2 r=>.cons k1 k2 (LF.snoc h1 h2 r)
theorem LF.length {H0 H:Hp}:∀ {us:Lo} {cs:Iy},LF H0 H us cs->us.length=cs.length
 | _,_,.nil=>rfl
 | _,_,.cons _ _ r=>by rw[Um,Um,LF.length r]
theorem LF.pairs {H0 H:Hp}:∀ {us:Lo} {cs:Iy},LF H0 H us cs->∃ ps:HL,us=ps.map (fun p=>V.ref p.1)/\ps.map (·.2)=cs.map iN/\∀ p∈ps,∃ c∈cs,p.2=iN c/\H p.1=some (.lst (c.map vN))/\H0 p.1=none
 | _,_,.nil=>⟨[],U,U,fun p hp=>by cases hp⟩
 | _,_,.cons (a:=a) (c:=c) h1 h2 r=>by
  obtain⟨ps,e1,e2,e3⟩:=LF.pairs r
  refine⟨(a,iN c)::ps,by rw[e1];rfl,by rw[U6,U6,e2],fun p hp=>?_⟩
  rcases List.mem_cons.mp hp with z | z
  ·subst z
   exact⟨c,TY,U,h1,h2⟩
  ·obtain⟨c',h3,h4⟩:=e3 p z
   exact⟨c',TX _ h3,h4⟩
theorem dU (c:IP):(iN c).map Zo=c:=by
 unfold iN
 rw[W4]
 exact (ZG fun a _=>UL a).trans (List.map_id c)
theorem LF.ordered {H0 H:Hp}{cs:Iy}{ps:HL}(h:∀ p∈ps,∃ c∈cs,p.2=iN c/\H p.1=some (.lst (c.map vN))/\H0 p.1=none):∀ {qs:HL},(∀ p∈qs,p∈ps)->LF H0 H (qs.map fun p=>V.ref p.1) (qs.map fun p=>p.2.map Zo)
 | [],_=>.nil
 | q::qs,k=>by
  obtain⟨c,_,h2,h3,h4⟩:=h q (k q TY)
  refine .cons ?_ h4 (LF.ordered h fun p hp=>k p (TX _ hp))
  show H q.1=some (.lst ((q.2.map Zo).map vN))
  rw[h2,dU]
  exact h3
abbrev zP:Stmt:=top 23
theorem eZ:aK ["book","floor","sure","whole","found","known","seen","ahead","giving","rows","row"] ZI (aD zP):=gC
def fO (n:Nat)(fl:IN)(bk:List (List Pl))(ks:Iy):Prop :=
 (∀ lo,Low n fl bk lo->∀ c,c∈ks ↔ c.Pairwise (· < ·)/\(∀ i∈c,i < n)/\Knot n fl bk lo c)/\ks.Pairwise fun c d=>HT.lexLt (iN c) (iN d)=true
inductive En (vs:Lo)(H:Hp)(Q:VK)(e3:XK):Prop where
 | mk (b f:Addr) (n:Nat) (bk:List (List Pl)) (fl:IN) (_:vs=[.ref b,.ref f]) (_:n<=6) (_:rO n H b bk) (_:bk.length=n) (_:H f=some (.tup (fl.map V.int))) (_:okG n fl) (_:∀ (r:Addr) (us:Lo) (ks:Iy) (H':Hp),aG H H'->H r=none->H' r=some (.lst us)->LF H H' us ks->(∀ a,V.ref a∈us->a≠r)->fO n fl bk ks->Q (.ref r) H')
def KW (n:Nat)(fl:IN)(bk:List (List Pl))(lo hi:IN)(b f su wh fo kn se ah:Addr)(H0 Hi:Hp)(m:Nat)(σ:St)(Hx:Hp):Prop :=
 ∃ (S A F:Iy) (kvs svs:KU) (ua uf:Lo),(∃ u8 u9 u10,σ=[oR b,oR f,oR su,oR wh,oR fo,oR kn,oR se,oR ah,u8,u9,u10])/\m+2 * S.length=2 * 2 ^ n+A.length ∧
 aG H0 Hx/\(∀ a o,Hi a=some o->∃ o',Hx a=some o')/\Eb n fl bk lo hi S A F/\Hx kn=some (.dT kvs)/\xY n fl bk lo Hx kvs/\Hx se=some (.dT svs)/\svs.map (·.1)=S.map (fun c=>kg (al n fl bk lo c))/\Hx ah=some (.lst ua)/\gG Hx ua (A.map fun c=>al n fl bk lo c)/\Hx fo=some (.lst uf)/\LF Hi Hx uf F
theorem J6 {k:Nat} (hk1:1<=k) (F:Fun K "knots" "knots" zP f fd) (B:Bt mg)
  (WP:Df P w K mg base "least" (k+1) ZI (mX Gy)) (UV:Df P w K mg base "greatest" (k+1) ZI (mX rfF)) (WV:Df P w K mg base "put_off" k X9 Bq) (W1:Df P w K mg base "risers" 1 ZH uJ) :
  dF P w K mg base CX0 (k+2) f fd ZI En:=by
 refine okA F eZ fun H Q E hr h=>?_
 obtain⟨b,f,n,bk,fl,rfl,n6,hB,lb,hf,of,q⟩:=h
 refine⟨_,(aq (sTc 2 eZ.nd (aP WP hr (v2 0 1)))
 (aq (sT 3 eZ.nd (aP UV hr (v2 0 1)))
 (aq (ifR (aU (r:=vD K) (kW hr.gU) (pv 3) (pv 2)) (aX cY))
 (aq (sT 4 eZ.nd (aX cY))
 (aq (sT 5 eZ.nd JW)
 (aq (sT 6 eZ.nd (JR hr.gU (Ag (pv 2) mF (Ag (pv 3) mF Nv)) U U (by simp) (by decide)))
 (aq (sT 7 eZ.nd (aX (v1 3)))
 (aq (o8 U3 (aU tZ (pln K B.len_ (pv 7)) aj) (aq (sT 8 eZ.nd (Ez Uz aaN aaM Qs (pv 7)))
 (aq (sT 9 eZ.nd (aP WV hr (au (pv 0) (au (pv 2) (v2 8 5)))))
 (aq (iz (iQ (aL (r:=GX K) (lY U) U B.all_ Az (a1 (bh (L:=["row"]) (F:=["sure"]) (cap:=[2]) U (aV U U (by kernel_rfl)) (cB (pv 9)) (fun _ _ _ _ _=>(pgC 0)) (fun _ _ _ _ _=>bu) (fun _ _ _ _ _=>(dX (r:=vD K) (kW hr.gU) (pv 0) (pv 1))))))) (aO (cu (jF Uz Vb Va bI (pv 4) (a1 (bG (r:=HF K) Dr U B.list_ yK (a1 (aP W1 hr (v2 2 8)))))))) cQ)
 (aO (cW U3 U (cB (pv 9)) (pgN 10 eZ.nd) (aO (iz (Gi (xQ hr.vG (pv 10) (pv 6))) (aq (Ij hr.vG (pv 6) (pv 10) mF U)
 (aO (cu (jF Uz Vb Va bI (pv 7) (v1 10))))) cQ))))))))
 (sR (aL (r:=zH K) (qj hr) U B.sorted_ (by decide+kernel) (v1 4))))))))))),?_⟩
 have okb:=hB.okB
 have p6:2 ^ n<=64:=by
  have:2 ^ n<=2 ^ 6:=Wx (by decide) n6
  simpa using this
 refine jD (fun σ H1=>∃ (su:Addr) (lo:IN),σ=[oR b,oR f,oR su,none,none,none,none,none,none,none,none]/\aG H H1/\H1 su=some (.tup (lo.map V.int))/\Low n fl bk lo) ?_ ?_
 ·intro N Rc
  exact⟨_,U,_,U,b,f,n,bk,fl,U,hB,lb,hf,of,fun m1 a1 H1 _ st1 s1 e1=>Rc _ _ ⟨a1,_,U,s1,e1,cM lb okb of st1⟩⟩
 rintro σ H1 ⟨su,lo,rfl,s1,esu,low⟩
 refine jD (fun σ H2=>∃ (wh:Addr) (hi:IN),σ=[oR b,oR f,oR su,oR wh,none,none,none,none,none,none,none]/\aG H1 H2/\H2 wh=some (.tup (hi.map V.int))/\okG n hi/\cU hi fl bk=hi/\∀ g,LeG g (cU g fl bk)->LeG g hi) ?_ ?_
 ·intro N Rc
  refine⟨_,U,_,U,b,f,n,bk,fl,U,hB.mono s1,lb,s1 _ _ hf,of,fun m2 a2 H2 _ st2 s2 e2=>Rc _ _ ⟨a2,_,U,s2,e2,gj lb okb of (jh lb okb of) m2,st2.1,fun g h=>mU lb okb of h m2⟩⟩
 rintro σ H2 ⟨wh,hi,rfl,s2,ewh,oh,fx,hup⟩
 have s12:=s1.trans s2
 have lh:LeG lo hi:=low.2.2 hi (by rw[fx];exact dY _)
 refine jD (fun σ H3=>σ=[oR b,oR f,oR su,oR wh,none,none,none,none,none,none,none]/\H3=H2/\hi≠lo) ?_ ?_
 ·intro N Rc
  refine⟨_,U,_,U,wh,su,hi,lo,U,U,sqT ewh,sqT (s2 _ _ esu),_,U,?_⟩
  by_cases e:hi=lo
  ·rw[dcT e]
   refine gF ⟨smN 0,fun p hp=>?_⟩
   refine q p [] [] _ (s12.trans (aA hp _)) (s12.free hp) aa .nil (fun a h=>by cases h) ⟨fun lo' hlo' c=>⟨fun z=>(by cases z),fun z=>absurd ?_ z.2.2.1⟩,.nil⟩
   have:lo'=lo:=hlo'.uniq low
   subst this
   have m:=d7 lb okb of low c
   refine bU (by rw[jz lb okb of low,low.1.1]) ?_ m.1.2.2.1
   have:=hup _ m.1.2.2.2
   rw[e] at this
   exact this
  ·rw[dcF e]
   exact fC (Rc _ _ ⟨U,U,e⟩)
 rintro σ H3 ⟨rfl,rfl,hne⟩
 refine jD (fun σ H4=>∃ fo:Addr,σ=[oR b,oR f,oR su,oR wh,oR fo,none,none,none,none,none,none]/\aG H3 H4/\H3 fo=none/\H4 fo=some (.lst [])) ?_ ?_
 ·intro N Rc
  exact⟨smN 0,fun p hp=>Rc _ _ ⟨p,U,aA hp _,hp,aa⟩⟩
 rintro σ H4 ⟨fo,rfl,s4,ffo,efo⟩
 refine jD (fun σ H5=>∃ kn:Addr,σ=[oR b,oR f,oR su,oR wh,oR fo,oR kn,none,none,none,none,none]/\aG H4 H5/\H4 kn=none/\H5 kn=some (.dT [])) ?_ ?_
 ·intro N Rc
  exact fun p hp=>Rc _ _ ⟨p,U,aA hp _,hp,aa⟩
 rintro σ H5 ⟨kn,rfl,s5,fkn,ekn⟩
 have s35:=s4.trans s5
 refine jD (fun σ H6=>∃ (se:Addr) (svs:KU),σ=[oR b,oR f,oR su,oR wh,oR fo,oR kn,oR se,none,none,none,none]/\aG H5 H6/\H5 se=none/\H6 se=some (.dT svs)/\svs.map (·.1)=[kg lo,kg hi]) ?_ ?_
 ·intro N Rc p hp
  have nk:kg lo≠kg hi:=fun z=>hne (LC z).symm
  have e1:putK ([]:KU) (kg lo) (.bl true)=[(kg lo,.bl true)]:=pG _ IV
  have e2:putK ([(kg lo,.bl true)]:KU) (kg hi) (.bl true)=[(kg lo,.bl true),(kg hi,.bl true)]:=pG _ (di nk)
  refine⟨_,U,_,U,[],kg lo,su,aa,U,?_,aB (by show 0<=1000;decide),_,kg hi,wh,aa,U,?_,aB (by rw[e1];show 1<=1000;decide),Rc _ _ ⟨p,_,U,aF (aF (aA hp _) hp _) hp _,hp,aa,by rw[e1,e2];rfl⟩⟩
  ·rw[Nz]
   exact aA hp _ _ _ (s35 _ _ (s2 _ _ esu))
  ·rw[Nz]
   exact aF (aA hp _) hp _ _ _ (s35 _ _ ewh)
 rintro σ H6 ⟨se,svs0,rfl,s6,fse,ese,esv⟩
 refine jD (fun σ H7=>∃ ah:Addr,σ=[oR b,oR f,oR su,oR wh,oR fo,oR kn,oR se,oR ah,none,none,none]/\aG H6 H7/\H6 ah=none/\H7 ah=some (.lst [.ref wh])) ?_ ?_
 ·intro N Rc
  exact⟨_,U,smN 1,fun p hp=>Rc _ _ ⟨p,U,aA hp _,hp,aa⟩⟩
 rintro σ Hi ⟨ah,rfl,s7,fah,eah⟩
 have s3i:=s35.trans (s6.trans s7)
 have kn3:H3 kn=none:=s4.free fkn
 have se3:H3 se=none:=s35.free fse
 have ah3:H3 ah=none:=(s35.trans s6).free fah
 have efoi:=(s5.trans (s6.trans s7)) _ _ efo
 have ekni:=(s6.trans s7) _ _ ekn
 have esei:=s7 _ _ ese
 have nfa:fo≠ah:=fun z=>by rw[← z,(s5.trans s6) _ _ efo] at fah;cases fah
 have alt:=O4 lb okb of low oh fx hup lh
 have rtop:ris n lo hi≠[]:=fun z=>hne (by
  rw[← alt] at z
  have:=NK lb okb of low z
  rw[alt] at this
  exact this)
 have hBi:=hB.mono s12
 refine jY (fun σ Hx=>∃ (S F:Iy) (uf:Lo),(∃ u8 u9 u10,σ=[oR b,oR f,oR su,oR wh,oR fo,oR kn,oR se,oR ah,u8,u9,u10])/\aG H3 Hx/\Eb n fl bk lo hi S [] F/\Hx fo=some (.lst uf)/\LF Hi Hx uf F) ?qR ?tW
 case qR =>
  rintro σ Hx ⟨S,Fs,uf,⟨u8,u9,u10,rfl⟩,sx,sr,efx,lf⟩
  obtain⟨ps,e1,e2,e3⟩:=lf.pairs
  subst e1
  have fl63:Fs.length < 64:=by
   have h1:=dh (m:=S.erase []) sr.fN fun c hc=>(aaX ((sr.fI c).mp hc).2.2.1).mpr ((sr.fI c).mp hc).1
   rw[aal sr.e0] at h1
   have h2:=sr.len
   have h3:0 < S.length:=List.length_pos_of_mem sr.e0
   lia
  have lps:ps.length=Fs.length:=by
   have:=congrArg aae e2
   rw[Tw,Tw] at this
   exact this
  have ndp:(ps.map (·.2)).Nodup:=by
   rw[e2]
   exact List.Pairwise.map _ (fun a b ne e=>ne (by rw[← dU a,← dU b,e])) sr.fN
  refine⟨_,U,fo,ps,U,sqL efx,by lia,fun p hp=>?_,ndp,fun qs pq pw l hl=>?_⟩
  ·obtain⟨c,_,h2,h3,_⟩:=e3 p hp
   exact sqL (h3.trans (by rw[h2,je];rfl))
  ·have inp:∀ p∈qs,p∈ps:=fun p hp=>pq.mem_iff.mp hp
   have sn:=aA hl (.lst (qs.map fun p=>V.ref p.1))
   have lo':=LF.ordered (qs:=qs) e3 inp
   have lo2:LF H (upd Hx l (.lst (qs.map fun p=>V.ref p.1))) (qs.map fun p=>V.ref p.1) (qs.map fun p=>p.2.map Zo):=by
    have:∀ {us cs},LF Hi Hx us cs->LF H (upd Hx l (.lst (qs.map fun p=>V.ref p.1))) us cs:=by
     intro us cs z
     induction z with
     | nil=>exact .nil
     | cons h1 h2 _ ih=>exact .cons (sn _ _ h1) ((s12.trans s3i).free h2) ih
    exact this lo'
   have memF:∀ c,c∈(qs.map fun p=>p.2.map Zo) ↔ c∈Fs:=fun c=>by
    have e4:ps.map (fun p=>p.2.map Zo)=Fs:=by
     have:=congrArg (aby (aby Zo)) e2
     rw[W4,W4] at this
     exact this.trans ((ZG fun a _=>dU a).trans (List.map_id Fs))
    rw[← e4]
    exact (pq.map _).mem_iff
   refine q l _ _ _ ((s12.trans sx).trans sn) ((s12.trans sx).free hl) aa lo2 (fun a ha=>?_) ⟨fun lo2 hlo2 c=>?_,?_⟩
   ·obtain⟨p,hp,e⟩:=List.mem_map.mp ha
    obtain⟨c,_,_,h3,_⟩:=e3 p (inp p hp)
    intro z
    cases e
    rw[z,hl] at h3
    cases h3
   ·have:lo2=lo:=hlo2.uniq low
    subst this
    rw[memF]
    exact sr.done lb okb of low hup c
   ·rw[Yp]
    refine pw.imp_of_mem fun {a b} ha hb h=>?_
    obtain⟨c,_,h2,_⟩:=e3 a (inp a ha)
    obtain⟨d,_,h3,_⟩:=e3 b (inp b hb)
    rw[h2,h3,dU,dU,← h2,← h3]
    exact h
 case tW =>
  intro N Rc
  have sr0:Eb n fl bk lo hi [[],ris n lo hi] [ris n lo hi] []:=by
   refine⟨fun c hc=>?_,?_,by simp,by simp,fun c hc=>?_,by simp,fun c hc hA c0=>?_,.nil,fun c=>⟨fun z=>(by cases z),fun z=>?_⟩⟩
   ·rcases List.mem_cons.mp hc with z | z
    ·rw[z,qu lb okb of low,Ky]
    ·rw[List.mem_singleton.mp z,alt]
   ·refine List.nodup_cons.mpr ⟨fun z=>rtop (List.mem_singleton.mp z).symm,by simp⟩
   ·rw[List.mem_singleton.mp hc]
    exact⟨by simp,rtop⟩
   ·rcases List.mem_cons.mp hc with z | z
    ·exact absurd z c0
    ·exact absurd z hA
   ·rcases List.mem_cons.mp z.1 with y | y
    ·exact absurd y z.2.2.1
    ·exact absurd y z.2.1
  refine⟨KW n fl bk lo hi b f su wh fo kn se ah H3 Hi,⟨2 * 2 ^ n+1 - 4,[[],ris n lo hi],[ris n lo hi],[],[],svs0,[.ref wh],[],⟨_,_,_,U⟩,?_,s3i,fun a o e=>⟨o,e⟩,sr0,ekni,⟨.nil,fun p hp=>by cases hp⟩,esei,?_,eah,?_,efoi,.nil⟩,?_⟩
  ·have:=sr0.len
   show _+2 * 2=2 * 2 ^ n+1
   have h2:([[],ris n lo hi]:Iy).length=2:=rfl
   lia
  ·rw[esv,U6,U6,ZQ,qu lb okb of low,alt]
  ·rw[U6,ZQ,alt]
   exact .cons (s3i _ _ ewh) (by rw[oh.1];lia) .nil
  rintro m σ Hx ⟨S,Ap,Fs,kvs,svs,ua,uf,⟨u8,u9,u10,rfl⟩,hm,sx,kept,sr,ekx,kno,esx,esk,eax,gax,efx,lf⟩
  refine⟨_,U,ah,_,U,.inl (sqL eax),_,_,U,U,_,U,?_⟩
  rcases Zg Ap with hA | ⟨A',c,hA⟩
  ·subst hA
   cases gax
   exact fC (Rc _ _ ⟨S,Fs,uf,⟨_,_,_,U⟩,sx,sr,efx,lf⟩)
  rw[Zh] at hA
  subst hA
  rw[T9] at gax
  obtain⟨ua',ga,rfl,gax',ega0⟩:=gax.Ld
  have ega:Hx ga=some (.tup ((al n fl bk lo c).map V.int)):=ega0
  rw[dcT (show (((ua'++[V.ref ga]).length:Nat):Int) > 0 by rw[Uh];have:([V.ref ga]:Lo).length=1:=rfl;lia)]
  refine gF ⟨fun σ' H'=>∃ m',m' < m/\KW n fl bk lo hi b f su wh fo kn se ah H3 Hi m' σ' H',fun _ _ h=>h,?_⟩
  obtain⟨cS,c0⟩:=sr.aS c (List.mem_append.mpr (.inr (List.mem_singleton.mpr U)))
  have hcl:=sr.cl c cS
  have c12:c.length<=6:=by
   rw[← hcl]
   exact Vd (Wn _ _) (by rw[UJ];exact n6)
  refine jD (fun σ Hy=>σ=[oR b,oR f,oR su,oR wh,oR fo,oR kn,oR se,oR ah,oR ga,u9,u10]/\Hy=upd Hx ah (.lst ua')) ?_ ?_
  ·intro N2 Rc2
   refine⟨_,U,.inl ⟨U,_,sqL eax⟩,ah,_,.ref ga,U,U,eax,by simp,Rc2 _ _ ⟨U,by rw[List.dropLast_concat]⟩⟩
  rintro σ Hy ⟨rfl,eHy⟩
  have sHy:aG H3 Hy:=by rw[eHy];exact aF sx ah3 _
  have yo:∀ a o,a≠ah->Hx a=some o->Hy a=some o:=fun a o na e=>by rw[eHy,aR na];exact e
  have nka:kn≠ah:=fun z=>by rw[z,eax] at ekx;cases ekx
  have nsa:se≠ah:=fun z=>by rw[z,eax] at esx;cases esx
  have nsk:se≠kn:=fun z=>by rw[z,ekn] at fse;cases fse
  have tyo:∀ a xs,Hx a=some (HO.tup xs)->Hy a=some (HO.tup xs):=fun a xs e=>yo a _ (fun z=>by rw[z,eax] at e;cases e) e
  have eya:Hy ah=some (.lst ua'):=by rw[eHy];exact aa
  refine jD (fun σ Hz=>∃ (ro:Addr) (ur:Lo) (kvs':KU),σ=[oR b,oR f,oR su,oR wh,oR fo,oR kn,oR se,oR ah,oR ga,oR ro,u10]/\aG H3 Hz/\(∀ a o,a≠kn->Hy a=some o->Hz a=some o)/\Hy ro=none/\Hz ro=some (.lst ur)/\gG Hz ur (c.map fun one=>al n fl bk lo (wo c one))/\Hz kn=some (.dT kvs')/\xY n fl bk lo Hz kvs') ?_ ?_
  ·intro N2 Rc2
   exact⟨_,U,_,U,_,U,_,U,b,su,ga,kn,n,bk,fl,lo,c,kvs,H3,U,by lia,sHy,kn3,hBi,lb,of,s2 _ _ esu,low,tyo _ _ ega,hcl,yo _ _ nka ekx,kno.aY tyo,fun r us kvs' H' h1 h2 h3 h4 h5 h6 h7=>Rc2 _ _ ⟨r,us,kvs',U,h1,h2,h3,h4,h5,h6,h7⟩⟩
  rintro σ Hz ⟨ro,ur,kvs',rfl,sz,yz,fro,ero,gr,ekz,knz⟩
  have efy:=yo _ _ nfa efx
  have nfk:fo≠kn:=fun z=>by rw[z,ekx] at efx;cases efx
  have nfs:fo≠se:=fun z=>by rw[z,esx] at efx;cases efx
  have efz:=yz _ _ nfk efy
  have ezs:Hz se=some (.dT svs):=yz _ _ nsk (yo _ _ nsa esx)
  have eza:Hz ah=some (.lst ua'):=yz _ _ nka.symm eya
  have tyz:∀ a xs,Hy a=some (HO.tup xs)->Hz a=some (HO.tup xs):=fun a xs e=>yz a _ (fun z=>by rw[z,yo _ _ nka ekx] at e;cases e) e
  have egz:=tyz _ _ (tyo _ _ ega)
  have keptz:∀ a o,Hi a=some o->∃ o',Hz a=some o':=fun a o e=>by
   obtain⟨o',e'⟩:=kept a o e
   by_cases z1:a=kn
   ·rw[z1];exact⟨_,ekz⟩
   ·by_cases z2:a=ah
    ·rw[z2];exact⟨_,eza⟩
    ·exact⟨o',yz _ _ z1 (yo _ _ z2 e')⟩
  have fresh:∀ {a:Addr} {G:Hp},(∀ b o,Hz b=some o->∃ o',G b=some o')->G a=none->Hi a=none:=fun {a G} kp e=>by
   cases z:Hi a with
   | none=>rfl
   | some o =>
    obtain⟨o1,h1⟩:=keptz a o z
    obtain⟨o2,h2⟩:=kp a o1 h1
    rw[e] at h2
    cases h2
  have lfz:LF Hi Hz uf Fs:=lf.keep fun a c' ha e=>yz _ _ (fun z=>by rw[z,ekni] at ha;cases ha) (yo _ _ (fun z=>by rw[z,eah] at ha;cases ha) e)
  have nro:ro≠ah/\ro≠se/\ro≠fo:=⟨fun z=>(by rw[z,eya] at fro;cases fro),fun z=>(by rw[z,yo _ _ nsa esx] at fro;cases fro),fun z=>(by rw[z,efy] at fro;cases fro)⟩
  have luf:uf.length<=64:=by
   rw[lf.length]
   have h1:=dh (m:=S) sr.fN fun c hc=>((sr.fI c).mp hc).1
   have:=sr.len
   lia
  refine jD (fun σ Hw=>∃ uf':Lo,σ=[oR b,oR f,oR su,oR wh,oR fo,oR kn,oR se,oR ah,oR ga,oR ro,u10]/\aG H3 Hw/\(∀ a o,a≠fo->Hz a=some o->Hw a=some o)/\Hw fo=some (.lst uf')/\LF Hi Hw uf' (if (∀ one∈c,al n fl bk lo (wo c one)=lo) then Fs++[c] else Fs)) ?_ ?_
  ·intro N2 Rc2
   have lrw:(c.map fun one=>al n fl bk lo (wo c one)).length<=6:=by rw[Tw];exact c12
   have lur:=gr.length
   refine⟨_,U,ro,U,⟨_,sqL ero⟩,fun D hD=>bV (K:=K) (a:=ro) (xs:=ur) (fun i zs σ' Hq=>(∃ u,σ'=[u,oR su])/\aG Hz Hq/\Hq D=some (.lst zs)/\zs=(((c.map fun one=>al n fl bk lo (wo c one)).take i).map fun g=>decide (g=lo)).map V.bl)
    ⟨⟨_,U⟩,aA hD _,aa,U⟩ (fun i zs σ' Hq _ h=>⟨sqL (h.2.1 _ _ ero),h.2.2.1⟩) ?_ ?_⟩
   ·rintro i zs x σ' Hq hx ⟨⟨u,rfl⟩,sq,eDq,rfl⟩
    obtain⟨a,g,rfl,hg,ea,_⟩:=gr.at hx
    refine gT ?_
    refine⟨_,U,_,U,a,su,g,lo,U,U,sqT (sq _ _ ea),sqT ((sz.trans sq) _ _ (s2 _ _ esu)),eDq,aB (by rw[Tw,Tw,Uj];lia),⟨_,U⟩,aF sq hD _,aa,?_⟩
    rw[Ux,hg,T9,T9]
    rfl
   ·rintro zs σ' Hq ⟨_,sq,eDq,rfl⟩
    rw[lur,Ul] at eDq
    refine⟨D,_,U,sqL eDq,_,U,?_⟩
    have hall:(((c.map fun one=>al n fl bk lo (wo c one)).map fun g=>decide (g=lo)).all fun b=>b)=decide (∀ one∈c,al n fl bk lo (wo c one)=lo):=by
     rw[YW,abR]
     simp
    rw[hall]
    by_cases e:∀ one∈c,al n fl bk lo (wo c one)=lo
    ·rw[dcT e]
     have efq:=sq _ _ efz
     refine gF ⟨_,U,.inl ⟨U,_,sqL efq⟩,_,U,_,U,su,ga,n,lo,_,U,by lia,(sz.trans sq) _ _ (s2 _ _ esu),low.1,sq _ _ egz,(d7 lb okb of low c).1.1,fun rr Hr sr' err=>⟨rr,c.map vN,U,.inr (sqT (err.trans (by rw[hcl]))),fun l hl=>?_⟩⟩
     have sn:=aA hl (.lst (c.map vN))
     have sqr:=sq.trans sr'
     have efl:=(sr'.trans sn) _ _ efq
     refine⟨fo,uf,_,U,U,efl,aB (by lia),?_⟩
     ·refine Rc2 _ _ ⟨_,U,?_,fun a o na e'=>by rw[aR na];exact (sqr.trans sn) _ _ e',aa,?_⟩
      ·exact aF (sz.trans (sqr.trans sn)) ffo _
      ·rw[iPo e]
       have hl0:Hi l=none:=fresh (G:=Hr) (fun b o e'=>⟨o,sqr _ _ e'⟩) hl
       have lfn:LF Hi (upd Hr l (.lst (c.map vN))) uf Fs:=lfz.keep fun a c' ha e'=>(sqr.trans sn) _ _ e'
       exact (LF.snoc aa hl0 lfn).keep fun a c' ha e'=>by
        rw[aR (fun z=>by rw[z,efoi] at ha;cases ha)]
        exact e'
    ·rw[dcF e]
     refine fC (Rc2 _ _ ⟨uf,U,sz.trans sq,fun a o _ e'=>sq _ _ e',sq _ _ efz,?_⟩)
     rw[iNe e]
     exact lfz.keep fun a c' ha e'=>sq _ _ e'
  rintro σ Hw ⟨uf',rfl,sw,zw,efw,lfw⟩
  have erw:Hw ro=some (.lst ur):=zw _ _ nro.2.2 ero
  have esw:Hw se=some (.dT svs):=zw _ _ nfs.symm ezs
  have eaw:Hw ah=some (.lst ua'):=zw _ _ nfa.symm eza
  have ekw:Hw kn=some (.dT kvs'):=zw _ _ nfk.symm ekz
  have tzw:∀ a xs,Hz a=some (HO.tup xs)->Hw a=some (HO.tup xs):=fun a xs e=>zw a _ (fun z=>by rw[z,efz] at e;cases e) e
  have gaw:gG Hw ua' (A'.map fun c=>al n fl bk lo c):=gax'.aY fun a xs e=>tzw _ _ (tyz _ _ (tyo _ _ e))
  have grw:=gr.aY tzw
  have keptw:∀ a o,Hi a=some o->∃ o',Hw a=some o':=fun a o e=>by
   obtain⟨o',e'⟩:=keptz a o e
   by_cases z1:a=fo
   ·rw[z1];exact⟨_,efw⟩
   ·exact⟨o',zw _ _ z1 e'⟩
  refine⟨_,U,ro,U,⟨_,sqL erw⟩,jb (K:=K) (a:=ro) (xs:=ur) (fun i σ Hv=>∃ (Nn:Iy) (svs2:KU) (ua2:Lo),(∃ v10,σ=[oR b,oR f,oR su,oR wh,oR fo,oR kn,oR se,oR ah,oR ga,oR ro,v10])/\aG H3 Hv/\(∀ a o,a≠se->a≠ah->Hw a=some o->Hv a=some o)/\Hv se=some (.dT svs2)/\svs2.map (·.1)=(S++Nn).map (fun c=>kg (al n fl bk lo c))/\Hv ah=some (.lst ua2)/\gG Hv ua2 ((A'++Nn).map fun c=>al n fl bk lo c)/\Nn.Nodup/\(∀ d∈Nn,d ∉ S/\ris n lo (al n fl bk lo d)=d)/\∀ one∈c.take i,ris n lo (al n fl bk lo (wo c one))∈S++Nn)
   ⟨[],svs,ua',⟨_,U⟩,sw,fun a o _ _ e=>e,esw,by rw[Wa];exact esk,eaw,by rw[Wa];exact gaw,.nil,fun d hd=>(by cases hd),fun one ho=>(by rw[Vs] at ho;cases ho)⟩ (fun i σ Hv _ h=>?_) ?_ ?_⟩
  ·obtain⟨_,_,_,_,_,kp,_⟩:=h
   exact sqL (kp _ _ nro.2.1 nro.1 erw)
  ·rintro i x σ Hv hx ⟨Nn,svs2,ua2,⟨v10,rfl⟩,sv,kp,es2,ek2,ea2,g2,nn,nS,al2⟩
   obtain⟨a,g,rfl,hg,ea,_⟩:=grw.at hx
   rw[Uo] at hg
   obtain⟨one,hone,rfl⟩:=Option.map_eq_some_iff.mp hg
   have ea':Hv a=some (.tup ((al n fl bk lo (wo c one)).map V.int)):=kp _ _ (fun z=>by rw[z,esw] at ea;cases ea) (fun z=>by rw[z,eaw] at ea;cases ea) ea
   have hd:=Fb lb okb of low (wo c one)
   have key:Hv a=some (.tup ((kg (al n fl bk lo (wo c one))).map kV)):=by rw[Nz];exact ea'
   have nds:(S++Nn).Nodup:=List.nodup_append.mpr ⟨sr.nd,nn,fun a ha b hb' e=>(nS b hb').1 (e▸ha)⟩
   have lSN:(S++Nn).length<=64:=by
    have:=dh (m:=aW n) nds fun d hd'=>by
     have:ris n lo (al n fl bk lo d)=d:=by
      rcases List.mem_append.mp hd' with z | z
      ·exact sr.cl d z
      ·exact (nS d z).2
     rw[← this]
     exact dG _ n
    rw[fY] at this
    lia
   have lsv:svs2.length=(S++Nn).length:=by
    have:=congrArg aae ek2
    rw[Tw,Tw] at this
    exact this
   have lua:=g2.length
   rw[Tw,Uh] at lua
   have lA:A'.length<=64:=by
    have h1:=dh (m:=S) (List.nodup_append.mp sr.aN).1 fun d hd'=>(sr.aS d (List.mem_append.mpr (.inl hd'))).1
    rw[Uh] at lSN
    lia
   have nxt:∀ {X:Iy},(∀ d∈S++Nn,d∈X)->ris n lo (al n fl bk lo (wo c one))∈X->∀ o'∈c.take (i+1),ris n lo (al n fl bk lo (wo c o'))∈X:=fun {X} h1 h2 o' ho=>by
    rw[Ux,hone,aaK] at ho
    rcases ho with z | z
    ·exact h1 _ (al2 o' z)
    ·cases List.mem_singleton.mp z
     exact h2
   refine gN ?_
   refine⟨_,U,_,U,se,j8 svs2 (kg (al n fl bk lo (wo c one))),U,Il.t es2 key,_,U,?_⟩
   cases hv:j8 svs2 (kg (al n fl bk lo (wo c one))) with
   | some v =>
    refine fC ⟨Nn,svs2,ua2,⟨_,U⟩,sv,kp,es2,ek2,ea2,g2,nn,nS,nxt (fun d z=>z) ?_⟩
    unfold j8 at hv
    obtain⟨p,hp,_⟩:=Option.map_eq_some_iff.mp hv
    have k1:p.1=kg (al n fl bk lo (wo c one)):=by simpa using YQ hp
    have k2:p.1∈svs2.map (·.1):=List.mem_map.mpr ⟨p,YB hp,U⟩
    rw[ek2] at k2
    obtain⟨d,hd1,hd2⟩:=List.mem_map.mp k2
    have hd3:=LC (hd2.trans k1)
    have hd4:ris n lo (al n fl bk lo d)=d:=by
     rcases List.mem_append.mp hd1 with z | z
     ·exact sr.cl d z
     ·exact (nS d z).2
    rw[← hd3,hd4]
    exact hd1
   | none =>
    have dN:ris n lo (al n fl bk lo (wo c one)) ∉ S++Nn:=fun z=>by
     have:kg (al n fl bk lo (wo c one))∈svs2.map (·.1):=by
      rw[ek2]
      exact List.mem_map.mpr ⟨_,z,by rw[hd]⟩
     obtain⟨p,hp,e⟩:=List.mem_map.mp this
     unfold j8 at hv
     exact List.find?_eq_none.mp (Option.map_eq_none_iff.mp hv) p hp (dcT e)
    refine gF ⟨_,U,_,U,se,_,U,O3.t es2 key (aB (by lia)),?_⟩
    have ea3:upd Hv se (.dT (putK svs2 (kg (al n fl bk lo (wo c one))) (.bl true))) ah=some (.lst ua2):=by rw[aR nsa.symm];exact ea2
    refine⟨_,U,.inl ⟨U,_,sqL ea3⟩,_,U,ah,ua2,_,U,U,ea3,aB (by rw[Uh] at lSN;lia),Nn++[ris n lo (al n fl bk lo (wo c one))],_,ua2++[.ref a],⟨_,U⟩,aF (aF sv se3 _) ah3 _,fun a' o' n1 n2 e'=>by rw[aR n2,aR n1];exact kp _ _ n1 n2 e',by rw[aR nsa];exact aa,?_,aa,?_,?_,fun d hd'=>?_,nxt (fun d z=>?_) ?_⟩
    ·rw[pG _ hv,T9,ek2,← Wk,T9 (l₁:=S++Nn)]
     show _++[kg (al n fl bk lo (wo c one))]=_++[kg (al n fl bk lo (ris n lo (al n fl bk lo (wo c one))))]
     rw[hd]
    ·rw[← Wk,T9]
     have t1:=pN (o:=.dT (putK svs2 (kg (al n fl bk lo (wo c one))) (.bl true))) es2
     refine gG.aY (bO ea3) (gG.snoc ?_ (by rw[jz lb okb of low];lia) (g2.aY t1))
     show upd Hv se _ a=some (.tup ((al n fl bk lo (ris n lo (al n fl bk lo (wo c one)))).map V.int))
     rw[hd]
     exact t1 _ _ ea'
    ·exact List.nodup_append.mpr ⟨nn,by simp,fun x hx' y hy e=>dN (List.mem_append.mpr (.inr (by rw[← List.mem_singleton.mp hy,← e];exact hx')))⟩
    ·rcases List.mem_append.mp hd' with z | z
     ·exact nS d z
     ·rw[List.mem_singleton.mp z]
      exact⟨fun q=>dN (List.mem_append.mpr (.inl q)),by rw[hd]⟩
    ·rw[← Wk]
     exact List.mem_append.mpr (.inl z)
    ·rw[← Wk]
     exact List.mem_append.mpr (.inr (List.mem_singleton.mpr U))
  ·rintro σ Hv ⟨Nn,svs2,ua2,⟨v10,rfl⟩,sv,kp,es2,ek2,ea2,g2,nn,nS,al2⟩
   rw[grw.length,Tw,Ul] at al2
   have sr2:=Eb.turn lb okb of low sr nn nS al2 U
   have l2:=sr2.len
   rw[Uh] at l2 hm
   have l1:([c]:Iy).length=1:=rfl
   have tw:∀ a xs,Hw a=some (HO.tup xs)->Hv a=some (HO.tup xs):=fun a xs e=>kp _ _ (fun z=>by rw[z,esw] at e;cases e) (fun z=>by rw[z,eaw] at e;cases e) e
   refine⟨2 * 2 ^ n+(A'++Nn).length - 2 * (S++Nn).length,by rw[Uh,Uh];lia,S++Nn,A'++Nn,_,kvs',svs2,ua2,uf',⟨_,_,_,U⟩,by rw[Uh,Uh];lia,sv,fun a o e=>?_,sr2,kp _ _ nsk.symm nka ekw,knz.aY fun a xs e=>tw _ _ (tzw _ _ e),es2,ek2,ea2,g2,kp _ _ nfs nfa efw,lfw.keep fun a c' ha e=>kp _ _ (fun z=>by rw[z,esei] at ha;cases ha) (fun z=>by rw[z,eah] at ha;cases ha) e⟩
   obtain⟨o',e'⟩:=keptw a o e
   by_cases z1:a=se
   ·rw[z1];exact⟨_,es2⟩
   ·by_cases z2:a=ah
    ·rw[z2];exact⟨_,ea2⟩
    ·exact⟨o',kp _ _ z1 z2 e'⟩
theorem yj:∀ n,1<=n->n<=6->∀ c∈aW n,c∈aZ n:=by
 intro n h1 h6
 match n,h1,h6 with
 | 1,_,_=>decide+kernel
 | 2,_,_=>decide+kernel
 | 3,_,_=>decide+kernel
 | 4,_,_=>decide+kernel
 | 5,_,_=>decide+kernel
 | 6,_,_=>decide+kernel
theorem Gh:∀ n,n<=6->(aZ n).Pairwise fun a b=>a.length<=b.length/\a≠b:=by
 intro n h6
 match n,h6 with
 | 0,_=>decide+kernel
 | 1,_=>decide+kernel
 | 2,_=>decide+kernel
 | 3,_=>decide+kernel
 | 4,_=>decide+kernel
 | 5,_=>decide+kernel
 | 6,_=>decide+kernel
section
variable {n:Nat}{fl lo:IN}{bk:List (List Pl)}
theorem PJ (c:IP)(one:Nat):(wo c one).Sublist c:=List.filter_sublist
theorem Ik:∀ (m:Nat) (c:IP),c.length<=m->al n fl bk lo []=lo->al n fl bk lo c≠lo->∃ k,k.Sublist c/\Knot n fl bk lo k
 | 0,c,hl,h0,h=>by
  have:c=[]:=List.length_eq_zero_iff.mp (by lia)
  rw[this] at h
  exact absurd h0 h
 | m+1,c,hl,h0,h=>by
  by_cases e:∀ one∈c,al n fl bk lo (wo c one)=lo
  ·exact⟨c,abC c,h,e⟩
  ·have ⟨one,h1,h2⟩:∃ one,one∈c/\¬ al n fl bk lo (wo c one)=lo:=by
    refine Z5 fun z=>e fun i hi=>Z5 fun q=>z ⟨i,hi,q⟩
   have l2:(wo c one).length < c.length:=by
    unfold wo
    rw[aaP]
    exact⟨one,h1,by simp⟩
   obtain⟨k,hk,kk⟩:=Ik m (wo c one) (by lia) h0 h2
   exact⟨k,hk.trans (PJ c one),kk⟩
theorem Du (hb:bk.length=n)(ok:okB bk)(hf:okG n fl)(hlo:Low n fl bk lo){k c:IP}(hk:Knot n fl bk lo k)(hc:Knot n fl bk lo c)(s:∀ i∈k,i∈c):∀ i∈c,i∈k:=by
 intro i hi
 refine Xj fun z=>hk.1 ?_
 have le:=tO hb ok hf hlo (c:=k) (d:=wo c i) fun j _ hj=>List.mem_filter.mpr ⟨s j hj,dcT fun q=>z (q▸hj)⟩
 rw[show al n fl bk lo (wo c i)=lo from hc.2 i hi] at le
 exact bU (by rw[jz hb ok hf hlo,hlo.1.1]) le (d7 hb ok hf hlo k).1.2.2.1
theorem Fy (hb:bk.length=n)(ok:okB bk)(hf:okG n fl)(hlo:Low n fl bk lo)(n1:1<=n)(n6:n<=6){i:Nat}{c:IP}(hc:(aZ n)[i]? = some c) :
  Knot n fl bk lo c ↔ al n fl bk lo c≠lo/\∀ k∈(aZ n).take i,Knot n fl bk lo k->¬ ∀ j∈k,j∈c:=by
 have up:=Gh n n6
 obtain⟨cin,cris⟩:=iW n6 c (Ud hc)
 refine⟨fun h=>⟨h.1,fun k hk kk s=>?_⟩,fun⟨h1,h2⟩=>?_⟩
 ·have back:=Du hb ok hf hlo kk h s
  have kF:=Xx hk
  obtain⟨kin,kris⟩:=iW n6 k kF
  have e:k=c:=by
   rw[← d8 kris kin,← d8 cris cin]
   exact abA fun i _=>decide_eq_decide.mpr ⟨fun h=>s i h,fun h=>back i h⟩
  obtain⟨j,hj⟩:=List.mem_iff_getElem?.mp hk
  rw[abe] at hj
  split at hj
  ·rename_i hji
   obtain⟨a1,b1⟩:=List.getElem?_eq_some_iff.mp hj
   obtain⟨a2,b2⟩:=List.getElem?_eq_some_iff.mp hc
   have:=(List.pairwise_iff_getElem.mp up j i a1 a2 hji).2
   rw[b1,b2] at this
   exact this e
  ·cases hj
 ·obtain⟨k,hs,kk⟩:=Ik c.length c (Ua _) (qu hb ok hf hlo) h1
  have kris:=cris.sublist hs
  have kin:∀ i∈k,i < n:=fun i hi=>cin i (hs.subset hi)
  by_cases e:k=c
  ·rw[← e]
   exact kk
  ·have lt:k.length < c.length:=by
    have:=hs.length_le
    refine Nat.lt_of_le_of_ne this fun z=>e (hs.eq_of_length z)
   have kF:k∈aZ n:=yj n n1 n6 k (by rw[← d8 kris kin];exact dG _ n)
   obtain⟨j,hj⟩:=List.mem_iff_getElem?.mp kF
   obtain⟨a1,b1⟩:=List.getElem?_eq_some_iff.mp hj
   obtain⟨a2,b2⟩:=List.getElem?_eq_some_iff.mp hc
   have hji:j < i:=by
    rcases V0 j i with z | z
    ·exact z
    ·rcases V0 i j with y | y
     ·have:=(List.pairwise_iff_getElem.mp up i j a2 a1 y).1
      rw[b1,b2] at this
      lia
     ·have:i=j:=by lia
      subst this
      rw[b1] at b2
      rw[b2] at lt
      lia
   refine absurd (fun x hx=>hs.subset hx) (h2 k ?_ kk)
   exact Ud (by rw[abe,iPo hji];exact hj)
theorem fO.uniq (hb:bk.length=n)(ok:okB bk)(hf:okG n fl)(hlo:Low n fl bk lo){ks js:Iy}(h:fO n fl bk ks)(h':fO n fl bk js):ks=js:=by
 have m:∀ c,c∈ks ↔ c∈js:=fun c=>(h.1 lo hlo c).trans (h'.1 lo hlo c).symm
 have p1:=h.2
 have p2:=h'.2
 clear h h'
 induction ks generalizing js with
 | nil =>
  cases js with
  | nil=>rfl
  | cons x _=>exact absurd ((m x).mpr TY) (by simp)
 | cons x ks ih =>
  cases js with
  | nil=>exact absurd ((m x).mp TY) (by simp)
  | cons y js =>
   rw[Wu] at p1 p2
   have irr:∀ {a b:IP},HT.lexLt (iN a) (iN b)=true->HT.lexLt (iN b) (iN a)=true->False:=fun h1 h2=>by
    have:=lD h1 h2
    rw[iM] at this
    cases this
   have hxy:x=y:=by
    rcases List.mem_cons.mp ((m x).mp TY) with z | z
    ·exact z
    ·rcases List.mem_cons.mp ((m y).mpr TY) with z' | z'
     ·exact z'.symm
     ·exact (irr (p2.1 x z) (p1.1 y z')).elim
   subst hxy
   have ne:∀ {c},HT.lexLt (iN x) (iN c)=true->c≠x:=fun h e=>by
    rw[e,iM] at h
    cases h
   refine congrArg _ (ih (fun c=>⟨fun h=>?_,fun h=>?_⟩) p1.2 p2.2)
   ·exact (List.mem_cons.mp ((m c).mp (TX _ h))).resolve_left (ne (p1.1 c h))
   ·exact (List.mem_cons.mp ((m c).mpr (TX _ h))).resolve_left (ne (p2.1 c h))
end
abbrev kI:Stmt:=top 49
theorem gW:aK ["_law_book_here","_law_floor","_law_base","_law_found","_law_crowd_here"] Yf (aD kI):=gC
def NoH:Hp:=fun _=>none
inductive zW (vs:Lo)(H:Hp)(Q:VK)(e3:XK):Prop where
 | mk (b f:Addr) (n:Nat) (bk:List (List Pl)) (fl:IN) (_:vs=[.ref b,.ref f]) (_:1<=n) (_:n<=6) (_:rO n H b bk) (_:bk.length=n) (_:H f=some (.tup (fl.map V.int))) (_:okG n fl) (_:∀ (r:Addr) (us:Lo) (ks:Iy) (H':Hp),aG H H'->H' r=some (.lst us)->LF NoH H' us ks->fO n fl bk ks->Q (.ref r) H')
theorem LF.at {H0 H:Hp}:∀ {us:Lo} {cs:Iy} {i:Nat} {u:V},LF H0 H us cs->us[i]? = some u->∃ (a:Addr) (c:IP),u = .ref a/\cs[i]? = some c/\H a=some (.lst (c.map vN))
 | _,_,_,_,.nil,h=>by simp at h
 | _,_,0,_,.cons h1 _ _,e=>by
  cases (show some _=some _ from e)
  exact⟨_,_,U,U,h1⟩
 | _,_,i+1,_,.cons _ _ r,e=>by
  obtain⟨a,c,k1,k2,k3⟩:=LF.at (i:=i) r (by simpa using e)
  exact⟨a,c,k1,by simpa using k2,k3⟩
theorem LF.nob {H0 H:Hp}:∀ {us:Lo} {cs:Iy},LF H0 H us cs->LF NoH H us cs
 | _,_,.nil=>.nil
 | _,_,.cons h1 _ r=>.cons h1 U (LF.nob r)
def BV (x:Addr):Hp:=fun a=>if a=x then some (.lst []) else none
theorem Ir {x a:Addr}(h:BV x a=none):a≠x:=fun z=>by
 unfold BV at h
 rw[iPo z] at h
 cases h
theorem Jh {x a:Addr}(h:a≠x):BV x a=none:=iNe h
open Classical in
theorem wj {k:Nat} (F:Fun K "_law_knots" "_law_knots" kI f fd) (B:Bt mg)
  (VY:Df P w K mg base "_law_least" (k+1) Yf Aq) (VS:Df P w K mg base "_law_crowds" 1 ["_law_n"] Bx) (VA:Df P w K mg base "_law_alone" k XG vo) :
  dF P w K mg base CX0 (k+2) f fd Yf zW:=by
 refine okA F gW fun H Q E hr h=>?_
 obtain⟨b,f,n,bk,fl,rfl,n1,n6,hB,lb,hf,of,q⟩:=h
 refine⟨_,(aq (sT 2 gW.nd (aP VY hr (v2 0 1)))
 (aq (sT 3 gW.nd (aX cY))
 (aq (cW U3 U (cB (aP VS hr (a1 (pln K B.len_ (pv 0))))) (qK (i:=4) gW.nd U (Zm U)) (aO (iz (aU (r:=JH K) (ym hr.gU) (aP VA hr (au (pv 0) (au (pv 1) (v2 2 4)))) (pv 2)) (aO (iz (rY (iQ (aL (r:=M9 K) (xX U) U B.any_ Lp (a1 (bh (L:=["_law_knot"]) (F:=ZA) (cap:=[4]) U (aV U U (by kernel_rfl)) (cB (pv 3)) (fun _ _ _ _ _=>(pgC 0)) (fun _ _ _ _ _=>bu) (fun _ _ _ _ _=>(aL (r:=GX K) (lY U) U B.all_ Az (a1 (bh (L:=ZO) (F:=ZA) (cap:=[1]) U (aV U U (by kernel_rfl)) (o7 K U (pv 0)) (fun _ _ _ _ _=>(pgC 0)) (fun _ _ _ _ _=>bu) (fun _ _ _ _ _=>(HH (r:=rIn K false) iJ (pv 0) (pv 1) U))))))))))) (aO (cu (jF Uz Vb Va bI (pv 3) (v1 4)))) cQ)) cQ)))
 (sR (aL (r:=zH K) (qj hr) U B.sorted_ (by decide+kernel) (v1 3)))))),?_⟩
 have okb:=hB.okB
 refine jD (fun σ H1=>∃ (ba:Addr) (lo:IN),σ=[oR b,oR f,oR ba,none,none]/\aG H H1/\H1 ba=some (.tup (lo.map V.int))/\Low n fl bk lo) ?_ ?_
 ·intro N Rc
  exact⟨_,U,_,U,b,f,n,bk,fl,U,hB,lb,hf,of,fun r z H1 s1 e1 low=>Rc _ _ ⟨r,z,U,s1,e1,low⟩⟩
 rintro σ H1 ⟨ba,lo,rfl,s1,eba,low⟩
 refine jD (fun σ H2=>∃ fo:Addr,σ=[oR b,oR f,oR ba,oR fo,none]/\aG H1 H2/\H1 fo=none/\H2 fo=some (.lst [])) ?_ ?_
 ·intro N Rc
  exact⟨smN 0,fun p hp=>Rc _ _ ⟨p,U,aA hp _,hp,aa⟩⟩
 rintro σ H2 ⟨fo,rfl,s2,ffo,efo⟩
 obtain⟨us0,hb0,rb0,l12⟩:=hB.mono (s1.trans s2)
 have lu:=rb0.length
 refine jY (fun σ Hx=>∃ (uf:Lo),(∃ u,σ=[oR b,oR f,oR ba,oR fo,u])/\aG H1 Hx/\Hx fo=some (.lst uf)/\LF NoH Hx uf ((aZ n).filter fun c=>decide (Knot n fl bk lo c))) ?qR ?tF
 case qR =>
  rintro σ Hx ⟨uf,⟨u,rfl⟩,sx,efx,lf⟩
  obtain⟨ps,e1,e2,e3⟩:=lf.pairs
  subst e1
  have ndF:((aZ n).filter fun c=>decide (Knot n fl bk lo c)).Nodup:=((Gh n n6).imp fun h=>h.2).filter _
  have l63:((aZ n).filter fun c=>decide (Knot n fl bk lo c)).length < 64:=by
   have h1:=dh (m:=(aZ n).erase []) ndF fun c hc=>by
    obtain⟨a1,a2⟩:=List.mem_filter.mp hc
    refine (aaX fun z=>?_).mpr a1
    rw[z] at a2
    exact (of_decide_eq_true a2).1 (qu lb okb of low)
   have h0:[]∈aZ n:=yj n n1 n6 [] (by have:=dG (fun _=>false) n;rw[List.filter_eq_nil_iff.mpr (fun _ _=>by simp)] at this;exact this)
   rw[aal h0,eU n1 n6] at h1
   have:2 ^ n<=2 ^ 6:=Wx (by decide) n6
   have:(2:Nat) ^ 6=64:=rfl
   have:0 < 2 ^ n:=Nat.pow_pos (by decide)
   lia
  have lps:ps.length=((aZ n).filter fun c=>decide (Knot n fl bk lo c)).length:=by
   have:=congrArg aae e2
   rw[Tw,Tw] at this
   exact this
  have ndp:(ps.map (·.2)).Nodup:=by
   rw[e2]
   exact List.Pairwise.map _ (fun a b ne e=>ne (by rw[← dU a,← dU b,e])) ndF
  refine⟨_,U,fo,ps,U,sqL efx,by lia,fun p hp=>?_,ndp,fun qs pq pw l hl=>?_⟩
  ·obtain⟨c,_,h2,h3,_⟩:=e3 p hp
   exact sqL (h3.trans (by rw[h2,je];rfl))
  ·have inp:∀ p∈qs,p∈ps:=fun p hp=>pq.mem_iff.mp hp
   have sn:=aA hl (.lst (qs.map fun p=>V.ref p.1))
   have lo':=(LF.ordered (qs:=qs) e3 inp).keep fun a c _ e=>sn _ _ e
   refine q l _ _ _ ((s1.trans sx).trans sn) aa lo' ⟨fun lo2 hlo2 c=>?_,?_⟩
   ·have:lo2=lo:=hlo2.uniq low
    subst this
    have e4:ps.map (fun p=>p.2.map Zo)=(aZ n).filter fun c=>decide (Knot n fl bk lo2 c):=by
     have:=congrArg (aby (aby Zo)) e2
     rw[W4,W4] at this
     exact this.trans ((ZG fun a _=>dU a).trans (List.map_id _))
    rw[(pq.map _).mem_iff,e4,aaJ]
    refine⟨fun⟨a1,a2⟩=>?_,fun⟨a1,a2,a3⟩=>⟨yj n n1 n6 c (by rw[← d8 a1 a2];exact dG _ n),dcT a3⟩⟩
    obtain⟨b1,b2⟩:=iW n6 c a1
    exact⟨b2,b1,of_decide_eq_true a2⟩
   ·rw[Yp]
    refine pw.imp_of_mem fun {a b} ha hb h=>?_
    obtain⟨c,_,h2,_⟩:=e3 a (inp a ha)
    obtain⟨d,_,h3,_⟩:=e3 b (inp b hb)
    rw[h2,h3,dU,dU,← h2,← h3]
    exact h
 case tF =>
  intro N Rc
  have ln:us0.length=n:=by lia
  refine⟨_,U,b,_,U,.inl (sqL hb0),n,by rw[ln];rfl,n1,n6,fun cr uc H3 s3 ecr lcr=>?_⟩
  have efo3:=s3 _ _ efo
  have luc:uc.length=2 ^ n:=by rw[lcr.length,eU n1 n6]
  have ncr:cr≠fo:=fun z=>by
   rw[z,efo3] at ecr
   cases ecr
   have:0 < 2 ^ n:=Nat.pow_pos (by decide)
   rw[← luc] at this
   exact absurd this (by simp)
  refine⟨cr,U,⟨_,sqL ecr⟩,jb (K:=K) (a:=cr) (xs:=uc) (fun i σ Hx=>∃ uf:Lo,(∃ u,σ=[oR b,oR f,oR ba,oR fo,u])/\aG H1 Hx/\(∀ a o,a≠fo->H3 a=some o->Hx a=some o)/\Hx fo=some (.lst uf)/\LF (BV fo) Hx uf (((aZ n).take i).filter fun c=>decide (Knot n fl bk lo c)))
   ⟨[],⟨_,U⟩,s2.trans s3,fun a o _ e=>e,efo3,by rw[Vs];exact .nil⟩ (fun i σ Hx _ h=>?_) ?_ ?_⟩
  ·obtain⟨_,_,_,kb,_⟩:=h
   exact sqL (kb _ _ ncr ecr)
  ·rintro i x σ Hx hx ⟨uf,⟨u,rfl⟩,sx,kb,efx,lf⟩
   obtain⟨ca,c,rfl,hc,hca,_⟩:=lcr.at hx
   obtain⟨cin,cris⟩:=iW n6 c (Ud hc)
   have cl6:c.length<=n:=by
    have:=iK (m:=0) cris fun k hk=>⟨Uw _,cin k hk⟩
    lia
   have nx:((aZ n).take (i+1)).filter (fun c=>decide (Knot n fl bk lo c))=((aZ n).take i).filter (fun c=>decide (Knot n fl bk lo c))++if decide (Knot n fl bk lo c)=true then [c] else []:=by
    rw[Ux,hc,Yd]
    show _++List.filter _ [c]=_
    rw[W0,aaL]
   have ks:=Fy lb okb of low n1 n6 hc
   have hcx:Hx ca=some (.lst (c.map vN)):=by
    by_cases z:ca=fo
    ·rw[z,efo3] at hca
     have c0:c=[]:=by
      have:=HO.lst.inj (U4 hca)
      exact List.map_eq_nil_iff.mp this.symm
     have f0:((aZ n).take i).filter (fun c=>decide (Knot n fl bk lo c))=[]:=by
      rw[List.filter_eq_nil_iff]
      intro k hk kk
      have kk:=of_decide_eq_true kk
      obtain⟨j,hj⟩:=List.mem_iff_getElem?.mp hk
      rw[abe] at hj
      split at hj
      ·rename_i hji
       obtain⟨a1,b1⟩:=List.getElem?_eq_some_iff.mp hj
       obtain⟨a2,b2⟩:=List.getElem?_eq_some_iff.mp hc
       have:=(List.pairwise_iff_getElem.mp (Gh n n6) j i a1 a2 hji).1
       rw[b1,b2,c0] at this
       have:k=[]:=List.length_eq_zero_iff.mp (Nat.le_zero.mp this)
       rw[this] at kk
       exact kk.1 (qu lb okb of low)
      ·cases hj
     rw[f0] at lf
     cases lf
     rw[z,efx,c0]
     rfl
    ·exact kb _ _ z hca
   have luf:uf.length<=64:=by
    rw[lf.length]
    refine Vd (Wn _ _) ?_
    rw[Uj,eU n1 n6]
    have:2 ^ n<=2 ^ 6:=Wx (by decide) n6
    have:(2:Nat) ^ 6=64:=rfl
    lia
   refine gN ?_
   refine⟨_,U,_,U,_,U,_,U,b,f,ba,ca,n,bk,fl,lo,c,U,hB.mono (s1.trans sx),lb,(s1.trans sx) _ _ hf,of,sx _ _ eba,low,hcx,cin,by lia,fun r z H4 s4 er mx=>?_⟩
   have ez:=Mj lb okb of low mx
   subst ez
   have kb4:∀ a o,a≠fo->H3 a=some o->H4 a=some o:=fun a o na e=>s4 _ _ (kb _ _ na e)
   have lf4:LF (BV fo) H4 uf _:=lf.keep fun a c' _ e=>s4 _ _ e
   have ef4:=s4 _ _ efx
   have hc4:=s4 _ _ hcx
   refine⟨_,U,r,ba,_,_,U,U,sqT er,sqT ((sx.trans s4) _ _ eba),_,U,?_⟩
   by_cases e:al n fl bk lo c=lo
   ·rw[show (!decide (al n fl bk lo c=lo))=false by rw[dcT e];rfl]
    refine fC ⟨uf,⟨_,U⟩,sx.trans s4,kb4,ef4,?_⟩
    rw[nx,iNe (by rw[dcF (fun k=>k.1 e)];exact Uc),Wa]
    exact lf4
   ·rw[show (!decide (al n fl bk lo c=lo))=true by rw[dcF e];rfl]
    refine gF ?_
    have memFK:∀ k',k'∈((aZ n).take i).filter (fun c=>decide (Knot n fl bk lo c)) ↔ k'∈(aZ n).take i/\Knot n fl bk lo k':=fun k'=>by
     rw[aaJ]
     exact⟨fun h=>⟨h.1,of_decide_eq_true h.2⟩,fun h=>⟨h.1,dcT h.2⟩⟩
    generalize ((aZ n).take i).filter (fun c=>decide (Knot n fl bk lo c))=FK at *
    refine⟨_,U,fo,U,⟨_,sqL ef4⟩,fun D hD=>bV (K:=K) (a:=fo) (xs:=uf) (fun i zs σ' Hy=>(∃ u,σ'=[u,oR ca])/\aG H4 Hy/\Hy D=some (.lst zs)/\zs=((FK.take i).map fun k'=>decide (∀ y∈k',y∈c)).map V.bl)
     ⟨⟨_,U⟩,aA hD _,aa,U⟩ (fun i zs σ' Hy _ h=>⟨sqL (h.2.1 _ _ ef4),h.2.2.1⟩) ?_ ?_⟩
    ·rintro i2 zs x σ' Hy hx2 ⟨⟨u,rfl⟩,sy,eD,rfl⟩
     obtain⟨ka,k',rfl,hk',eka⟩:=lf4.at hx2
     have eky:=sy _ _ eka
     have hcy:=sy _ _ hc4
     obtain⟨kin,kris⟩:=iW n6 k' (Xx ((memFK k').mp (Ud hk')).1)
     have k6:k'.length<=n:=by
      have:=iK (m:=0) kris fun k hk=>⟨Uw _,kin k hk⟩
      lia
     have i64:i2 < uf.length:=(geS hx2).1
     refine gT ?_
     refine⟨_,U,ka,U,⟨_,sqL eky⟩,fun D2 hD2=>bV (K:=K) (a:=ka) (xs:=k'.map vN) (fun j ys σ'' Hq=>(∃ u,σ''=[u,some (.ref ca)])/\aG Hy Hq/\Hq D2=some (.lst ys)/\ys=((k'.take j).map fun y=>decide (y∈c)).map V.bl)
      ⟨⟨_,U⟩,aA hD2 _,aa,U⟩ (fun j ys σ'' Hq _ h=>⟨sqL (h.2.1 _ _ eky),h.2.2.1⟩) ?_ ?_⟩
     ·rintro j ys x2 σ'' Hq hx3 ⟨⟨u2,rfl⟩,sq,eD2,rfl⟩
      obtain⟨y,hy,rfl⟩:=pM hx3
      refine gT ?_
      refine⟨_,U,_,U,ca,_,U,.inl (sqL (sq _ _ hcy)),U,qC c,eD2,aB (by rw[Tw,Tw,Uj];lia),⟨_,U⟩,aF sq hD2 _,aa,?_⟩
      rw[Ux,hy,T9,T9]
      show _++[V.bl (inV (.int (y:Int)) (c.map vN))]=_
      rw[pB]
      rfl
     ·rintro ys σ'' Hq ⟨_,sq,eD2,rfl⟩
      rw[Tw,Ul] at eD2
      refine⟨D2,_,U,sqL eD2,sq _ _ eD,aB (by rw[Tw,Tw,Uj];lia),⟨_,U⟩,aF (sy.trans sq) hD _,aa,?_⟩
      rw[Ux,hk',T9,T9]
      have:((k'.map fun y=>decide (y∈c)).all fun b=>b)=decide (∀ y∈k',y∈c):=by
       rw[YW,abR]
       simp
      rw[this]
      rfl
    ·rintro zs σ' Hy ⟨_,sy,eD,rfl⟩
     rw[lf4.length,Ul] at eD
     refine⟨D,_,U,sqL eD,_,U,?_⟩
     have ef5:=sy _ _ ef4
     have kb5:∀ a o,a≠fo->H3 a=some o->Hy a=some o:=fun a o na e=>sy _ _ (kb4 _ _ na e)
     have lf5:LF (BV fo) Hy uf FK:=lf4.keep fun a c' _ e=>sy _ _ e
     by_cases kn:Knot n fl bk lo c
     ·have an:((FK.map fun k'=>decide (∀ y∈k',y∈c)).any fun b=>b)=false:=by
       rw[List.any_eq_false]
       intro x hx
       obtain⟨k',hk',rfl⟩:=List.mem_map.mp hx
       obtain⟨a1,a2⟩:=(memFK k').mp hk'
       exact fun z=>(ks.mp kn).2 k' a1 a2 (of_decide_eq_true z)
      rw[an]
      have c0:c≠[]:=fun z=>by
       rw[z] at kn
       exact kn.1 (qu lb okb of low)
      have nca:ca≠fo:=fun z=>by
       rw[z,efo3] at hca
       have:=HO.lst.inj (U4 hca)
       exact c0 (List.map_eq_nil_iff.mp this.symm)
      refine gF ⟨_,U,.inl ⟨U,_,sqL ef5⟩,_,U,fo,uf,_,U,U,ef5,aB (by lia),?_⟩
      refine⟨_,⟨_,U⟩,aF (sx.trans (s4.trans sy)) ffo _,fun a o na e=>by rw[aR na];exact kb5 _ _ na e,aa,?_⟩
      rw[nx,iPo (dcT kn)]
      exact (LF.snoc (sy _ _ hc4) (Jh nca) lf5).keep fun a c' ha e=>by
       rw[aR (Ir ha)]
       exact e
     ·have an:((FK.map fun k'=>decide (∀ y∈k',y∈c)).any fun b=>b)=true:=by
       refine Z5 fun z=>kn (ks.mpr ⟨e,fun k' a1 a2 a3=>z ?_⟩)
       rw[List.any_eq_true]
       exact⟨_,List.mem_map.mpr ⟨k',(memFK k').mpr ⟨a1,a2⟩,U⟩,dcT a3⟩
      rw[an]
      refine fC ⟨uf,⟨_,U⟩,sx.trans (s4.trans sy),kb5,ef5,?_⟩
      rw[nx,iNe (by rw[dcF kn];exact Uc),Wa]
      exact lf5
  ·rintro σ Hx ⟨uf,⟨u,rfl⟩,sx,kb,efx,lf⟩
   rw[luc,← eU n1 n6,Ul] at lf
   exact Rc _ _ ⟨uf,⟨_,U⟩,sx,efx,lf.nob⟩
def cD (c:IP):Dm:=.lst ((iN c).map Dm.int)
theorem O5 {H:Hp}{a:Addr}{c:IP}(h:H a=some (.lst (c.map vN)))(l:c.length<=1000):Rep H (.ref a) (cD c):=by
 rw[je] at h
 exact .lst h (by rw[Tw,Tw];lia) (qZ _)
theorem QC (c:IP):(cD c).dep=1:=by
 unfold cD
 rw[Dm.dep,mV]
theorem LF.rep {H0 H:Hp}:∀ {us:Lo} {cs:Iy},LF H0 H us cs->(∀ c∈cs,c.length<=1000)->uW H us (cs.map cD)
 | _,_,.nil,_=>.nil
 | _,_,.cons h _ r,l=>.cons (O5 h (l _ TY)) (LF.rep r fun c hc=>l c (TX _ hc))
theorem G9:∀ cs:Iy,vA (cs.map cD)<=1
 | []=>by rw[ZQ,vA];decide
 | c::cs=>by
  have:=G9 cs
  rw[U6,vA]
  have:(cD c).dep=1:=QC c
  lia
theorem LF.mono {H0 H H':Hp}(s:aG H H'){us:Lo}{cs:Iy}(h:LF H0 H us cs):LF H0 H' us cs:=h.keep fun a c _ q=>s _ _ q
theorem fO.few {n:Nat}{fl lo:IN}{bk:List (List Pl)}{ks:Iy}(hlo:Low n fl bk lo)(h:fO n fl bk ks):ks.length<=2 ^ n/\∀ c∈ks,c.length<=n:=by
 refine⟨?_,fun c hc=>?_⟩
 ·have nd:ks.Nodup:=h.2.imp fun {a b} q e=>by
   rw[e,iM] at q
   cases q
  have:=dh (m:=aW n) nd fun c hc=>by
   obtain⟨h1,h2,_⟩:=(h.1 lo hlo c).mp hc
   rw[← d8 h1 h2]
   exact dG _ n
  rw[fY] at this
  exact this
 ·obtain⟨h1,h2,_⟩:=(h.1 lo hlo c).mp hc
  have:=iK (m:=0) h1 fun k hk=>⟨Uw _,h2 k hk⟩
  lia
def vC (n:Nat)(fl:IN)(bk:List (List Pl))(hi:IN):Prop:=okG n hi/\cU hi fl bk=hi/\∀ g,LeG g (cU g fl bk)->LeG g hi
open Classical in
def cl (n:Nat)(bk:List (List Pl))(x:IN):IN:=if h:∃ y,Low n x bk y then Classical.choose h else []
def bg (n:Nat)(bk:List (List Pl))(fl hi:IN)(c:IP):IN:=cl n bk (lfF fl hi c)
section
variable {n:Nat}{fl hi:IN}{bk:List (List Pl)}
theorem vC.uniq {a b:IN}(h:vC n fl bk a)(h':vC n fl bk b):a=b :=
 bU (by rw[h.1.1,h'.1.1]) (h'.2.2 _ (by rw[h.2.1];exact dY _)) (h.2.2 _ (by rw[h'.2.1];exact dY _))
theorem jc (hb:bk.length=n)(ok:okB bk)(hf:okG n fl){m:Nat}(st:Stops (Fd fl bk) (rfF fl bk) m):vC n fl bk (itF (Fd fl bk) (rfF fl bk) m) :=
 ⟨gj hb ok hf (jh hb ok hf) m,st.1,fun _ h=>mU hb ok hf h m⟩
theorem zj (hb:bk.length=n)(ok:okB bk)(hf:okG n fl){z:IN}(h:Lim n fl bk false (rfF fl bk) z):vC n fl bk z:=by
 obtain⟨h1,h2,h3⟩:=h
 unfold Goes at h3
 rw[iNe Uc] at h3
 exact⟨h1,h2,fun g hg=>h3.2.2 g (hg.trans (ph hb ok hf g)) hg⟩
theorem iH (hb:bk.length=n)(ok:okB bk)(hf:okG n fl)(h:vC n fl bk hi):LeG fl hi:=by
 have:=f9 hb ok hf hi
 rw[h.2.1] at this
 exact this
theorem DX {x y:IN}(h:Low n x bk y):cl n bk x=y:=by
 have e:∃ y,Low n x bk y:=⟨y,h⟩
 unfold cl
 rw[dif_pos e]
 exact (Classical.choose_spec e).uniq h
theorem Kp (hb:bk.length=n)(ok:okB bk){x:IN}(hx:okG n x):Low n x bk (cl n bk x):=by
 obtain⟨m,_,st⟩:=tu hb ok hx
 have:=cM hb ok hx st
 rw[DX this]
 exact this
theorem sG (hb:bk.length=n){x y:IN}(hx:okG n x)(h:Low n x bk y){i:Nat}(hi:i < n):y.getD i 0=max (x.getD i 0) (duF y 0 (bk.getD i [])):=by
 have:=cR hb hx y hi
 rw[h.2.1] at this
 exact this
theorem Lj (hb:bk.length=n)(ok:okB bk){x y g:IN}(hx:okG n x)(h:Low n x bk y)(hg:okG n g)(k:∀ i < n,x.getD i 0<=g.getD i 0/\duF g 0 (bk.getD i [])<=g.getD i 0):LeG y g:=by
 refine h.2.2 g (jB (cj hb ok hx g).1 hg.1 fun i hi=>?_)
 rw[cR hb hx g hi]
 have:=k i hi
 lia
theorem KR (hb:bk.length=n)(ok:okB bk){x y:IN}(hx:okG n x)(hy:okG n y)(e:∀ i < n,y.getD i 0=max (x.getD i 0) (duF y 0 (bk.getD i [])))(k:∀ g,LeG (cU g x bk) g->LeG y g):Low n x bk y:=by
 refine⟨hy,bU (by rw[(cj hb ok hx y).1,hy.1]) (jB (cj hb ok hx y).1 hy.1 fun i hi=>?_) (jB hy.1 (cj hb ok hx y).1 fun i hi=>?_),k⟩
 ·rw[cR hb hx y hi,← e i hi]
  exact Vj _
 ·rw[cR hb hx y hi,← e i hi]
  exact Vj _
theorem M7 (hb:bk.length=n)(hf:okG n fl)(h:vC n fl bk hi){i:Nat}(hi':i < n):hi.getD i 0=max (fl.getD i 0) (duF hi 0 (bk.getD i [])):=by
 have:=cR hb hf hi hi'
 rw[h.2.1] at this
 exact this
theorem jC (hf:okG n fl)(c:IP){i:Nat}(h:i < n):(lfF fl hi c).getD i 0=if i∈c then hi.getD i 0 else fl.getD i 0:=oK (by rw[hf.1];exact h)
theorem qt (hb:bk.length=n)(ok:okB bk)(hf:okG n fl)(hh:vC n fl bk hi)(c:IP):Low n (lfF fl hi c) bk (bg n bk fl hi c):=Kp hb ok (cX hf hh.1 c)
theorem MT (hb:bk.length=n)(ok:okB bk)(hf:okG n fl)(hh:vC n fl bk hi)(c:IP):LeG (bg n bk fl hi c) hi:=by
 refine Lj hb ok (cX hf hh.1 c) (qt hb ok hf hh c) hh.1 fun i hi'=>?_
 rw[jC hf c hi']
 have:=M7 hb hf hh hi'
 split <;> lia
theorem Om (hb:bk.length=n)(ok:okB bk)(hf:okG n fl)(hh:vC n fl bk hi){c d:IP}(h:∀ i∈c,i∈d):LeG (bg n bk fl hi c) (bg n bk fl hi d):=by
 have ld:=qt hb ok hf hh d
 refine Lj hb ok (cX hf hh.1 c) (qt hb ok hf hh c) ld.1 fun i hi'=>?_
 have a:=sG hb (cX hf hh.1 d) ld hi'
 rw[jC hf d hi'] at a
 rw[jC hf c hi']
 have b:=iH hb ok hf hh i
 have:=h i
 by_cases e:i∈c
 ·rw[iPo (this e)] at a
  rw[iPo e]
  lia
 ·rw[iNe e]
  split at a <;> lia
theorem Pq (hb:bk.length=n)(ok:okB bk)(hf:okG n fl)(hh:vC n fl bk hi):bg n bk fl hi (Ui n)=hi:=by
 have l:=qt hb ok hf hh (Ui n)
 refine bU (by rw[l.1.1,hh.1.1]) (MT hb ok hf hh _) (jB hh.1.1 l.1.1 fun i hi'=>?_)
 have a:=sG hb (cX hf hh.1 _) l hi'
 rw[jC hf _ hi',iPo (List.mem_range.mpr hi')] at a
 lia
theorem Gr (hb:bk.length=n)(ok:okB bk)(hf:okG n fl)(hh:vC n fl bk hi){lo:IN}(low:Low n fl bk lo):bg n bk fl hi []=lo:=by
 refine DX ?_
 have e:lfF fl hi []=fl:=by
  refine bU (jV _ _ _) (jB (cX hf hh.1 []).1 hf.1 fun i hi'=>?_) (jB hf.1 (cX hf hh.1 []).1 fun i hi'=>?_)
  ·rw[jC hf [] hi',iNe (by simp)]
   exact Vj _
  ·rw[jC hf [] hi',iNe (by simp)]
   exact Vj _
 rw[e]
 exact low
theorem Ma (hb:bk.length=n)(ok:okB bk)(hf:okG n fl)(hh:vC n fl bk hi)(c:IP)(one:Nat):cl n bk (lfF (bg n bk fl hi c) hi [one])=bg n bk fl hi (c++[one]):=by
 have ly:=qt hb ok hf hh c
 have ox:=cX (c:=[one]) ly.1 hh.1
 have lz:=Kp hb ok ox
 have hle:=MT hb ok hf hh c
 generalize hy:bg n bk fl hi c=y at *
 generalize cl n bk (lfF y hi [one])=z at *
 refine (DX (KR hb ok (cX hf hh.1 _) lz.1 (fun i hi'=>?_) fun g hg=>?_)).symm
 ·have a:=sG hb ox lz hi'
  rw[jC ly.1 [one] hi'] at a
  have b:=sG hb (cX hf hh.1 c) ly hi'
  rw[jC hf c hi'] at b
  rw[jC hf (c++[one]) hi']
  have yz:LeG y z:=jB ly.1.1 lz.1.1 fun j hj=>by
   have d:=sG hb ox lz hj
   rw[jC ly.1 [one] hj] at d
   have:=hle j
   split at d <;> lia
  have dm:=mL hb ok yz hi'
  have fh:=iH hb ok hf hh i
  have:=hle i
  by_cases e1:i=one
  ·rw[iPo (by simp [e1])] at a
   rw[iPo (by simp [e1])]
   exact a
  ·rw[iNe (by simp [e1])] at a
   by_cases e2:i∈c
   ·rw[iPo e2] at b
    rw[iPo (by simp [e2])]
    lia
   ·rw[iNe e2] at b
    rw[iNe (by simp [e1,e2])]
    lia
 ·have og:=cX hf hh.1 (c++[one])
  have hg':∀ i < n,(lfF fl hi (c++[one])).getD i 0<=g.getD i 0/\duF g 0 (bk.getD i [])<=g.getD i 0:=fun i hi'=>by
   have:=hg i
   rw[cR hb og g hi'] at this
   lia
  have fh:=iH hb ok hf hh
  have yg:LeG y g:=ly.2.2 g (fun i=>?_)
  ·refine lz.2.2 g fun i=>?_
   by_cases hi':i < n
   ·rw[cR hb ox g hi',jC ly.1 [one] hi']
    have a:=hg' i hi'
    rw[jC hf (c++[one]) hi'] at a
    have:=yg i
    by_cases e1:i=one
    ·rw[iPo (by simp [e1])] at a
     rw[iPo (by simp [e1])]
     lia
    ·rw[iNe (by simp [e1])]
     lia
   ·have:=hg i
    rw[jU (by rw[(cj hb ok og g).1];lia)] at this
    rw[jU (by rw[(cj hb ok ox g).1];lia)]
    exact this
  ·by_cases hi':i < n
   ·rw[cR hb (cX hf hh.1 c) g hi',jC hf c hi']
    have a:=hg' i hi'
    rw[jC hf (c++[one]) hi'] at a
    have:=fh i
    by_cases e2:i∈c
    ·rw[iPo (by simp [e2])] at a
     rw[iPo e2]
     lia
    ·rw[iNe e2]
     split at a <;> lia
   ·have:=hg i
    rw[jU (by rw[(cj hb ok og g).1];lia)] at this
    rw[jU (by rw[(cj hb ok (cX hf hh.1 c) g).1];lia)]
    exact this
theorem Oh (hb:bk.length=n)(ok:okB bk)(hf:okG n fl)(hh:vC n fl bk hi){c d e:IP}{one:Nat}(h1:one < n)(hc:∀ i∈c,i∈d)(he:∀ i,i∈e ↔ i∈d∨i=one)(k:hi.getD one 0<=(bg n bk fl hi c).getD one 0):bg n bk fl hi e=bg n bk fl hi d:=by
 have ld:=qt hb ok hf hh d
 have od:=cX hf hh.1 d
 have oe:=cX hf hh.1 e
 have mono:=Om hb ok hf hh hc one
 have hle:=MT hb ok hf hh d one
 refine DX (KR hb ok oe ld.1 (fun i hi'=>?_) fun g hg=>ld.2.2 g fun i=>?_)
 ·have a:=sG hb od ld hi'
  rw[jC hf d hi'] at a
  rw[jC hf e hi']
  have fh:=iH hb ok hf hh i
  by_cases e1:i=one
  ·rw[iPo ((he i).mpr (.inr e1))]
   subst e1
   split at a <;> lia
  ·by_cases e2:i∈d
   ·rw[iPo ((he i).mpr (.inl e2))]
    rw[iPo e2] at a
    exact a
   ·rw[iNe (fun z=>(he i).mp z |>.elim e2 e1)]
    rw[iNe e2] at a
    exact a
 ·have:=hg i
  by_cases hi':i < n
  ·rw[cR hb oe g hi',jC hf e hi'] at this
   rw[cR hb od g hi',jC hf d hi']
   have fh:=iH hb ok hf hh i
   by_cases e2:i∈d
   ·rw[iPo ((he i).mpr (.inl e2))] at this
    rw[iPo e2]
    lia
   ·rw[iNe e2]
    split at this <;> lia
  ·rw[jU (by rw[(cj hb ok oe g).1];lia)] at this
   rw[jU (by rw[(cj hb ok od g).1];lia)]
   exact this
end
def cZ (c:IP)(one:Nat):Bool:=match c.getLast? with
 | none=>true
 | some l=>decide (l < one)
def CK (n:Nat):Nat->Iy
 | 0=>[[]]
 | k+1=>(CK n k).flatMap fun c=>((Ui n).filter (cZ c)).map fun one=>c++[one]
def grow (n:Nat)(bk:List (List Pl))(fl hi:IN)(c:IP):Iy:=((Ui n).filter fun one=>decide ((bg n bk fl hi c).getD one 0 < hi.getD one 0) && cZ c one).map fun one=>c++[one]
def bf (n:Nat)(bk:List (List Pl))(fl hi:IN):Nat->Iy
 | 0=>[[]]
 | k+1=>(bf n bk fl hi k).flatMap (grow n bk fl hi)
theorem lW {α β:Type}{f g:α->List β}(h:∀ a,Zd (f a) (g a)):∀ {l m:List α},Zd l m->Zd (l.flatMap f) (m.flatMap g)
 | _,_,.slnil=>List.Sublist.slnil
 | _,_,.cons a r=>by
  rw[Xz]
  exact (lW h r).trans (List.sublist_append_right _ _)
 | _,_,.cons₂ a r=>by
  rw[Xz,Xz]
  exact List.Sublist.append (h a) (lW h r)
theorem vQ (n:Nat)(bk:List (List Pl))(fl hi:IN):∀ k,Zd (bf n bk fl hi k) (CK n k)
 | 0=>abC _
 | k+1=>lW (fun c=>by
  unfold grow
  refine List.Sublist.map _ ?_
  rw[← abg]
  exact List.filter_sublist) (vQ n bk fl hi k)
theorem vm {α:Type}{p:α->Bool}{x:α}:∀ {l' l:List α},Zd l' l->l.Nodup->l.find? p=some x->x∈l'->l'.find? p=some x
 | _,_,.slnil,_,h,_=>h
 | l',_,.cons (l₂:=l) a r,nd,h,hx=>by
  rw[Vg] at nd
  rw[Xp] at h
  cases e:p a with
  | true =>
   rw[e] at h
   cases h
   exact absurd (r.subset hx) nd.1
  | false =>
   rw[e] at h
   exact vm r nd.2 h hx
 | _,_,.cons₂ a r,nd,h,hx=>by
  rw[Vg] at nd
  rw[Xp] at h ⊢
  cases e:p a with
  | true =>
   rw[e] at h
   exact h
  | false =>
   rw[e] at h
   have hp:=YQ h
   rcases List.mem_cons.mp hx with z | z
   ·rw[z,e] at hp
    cases hp
   ·exact vm r nd.2 h z
theorem qp (c:IP)(l one:Nat):cZ (c++[l]) one=decide (l < one):=by
 unfold cZ
 rw[List.getLast?_append]
 rfl
theorem lL {c:IP}{one:Nat}(hp:c.Pairwise (· < ·)):(c++[one]).Pairwise (· < ·) ↔ cZ c one=true:=by
 rcases Zg c with rfl | ⟨d,l,rfl⟩
 ·simp [cZ]
 ·rw[Zh] at hp ⊢
  rw[qp,decide_eq_true_eq,Xw]
  rw[Xw] at hp
  constructor
  ·intro h
   exact h.2.2 l (by simp) one (by simp)
  ·intro h
   refine⟨List.pairwise_append.mpr hp,by simp,fun a ha b hb=>?_⟩
   rw[List.mem_singleton.mp hb]
   rcases List.mem_append.mp ha with z | z
   ·exact abv (hp.2.2 a z l (by simp)) h
   ·rw[List.mem_singleton.mp z]
    exact h
theorem tK (n:Nat):∀ (k:Nat) (c:IP),c∈CK n k ↔ c.length=k/\c.Pairwise (· < ·)/\∀ i∈c,i < n
 | 0,c=>by
  rw[CK,WY]
  constructor
  ·rintro rfl
   exact⟨U,Ze,by simp⟩
  ·intro h
   exact Zv h.1
 | k+1,c=>by
  rw[CK,List.mem_flatMap]
  constructor
  ·rintro⟨d,hd,hc⟩
   obtain⟨one,ho,rfl⟩:=List.mem_map.mp hc
   obtain⟨h1,h2⟩:=List.mem_filter.mp ho
   obtain⟨k1,k2,k3⟩:=(tK n k d).mp hd
   refine⟨by rw[Uh,k1];rfl,(lL k2).mpr h2,fun i hi=>?_⟩
   rcases List.mem_append.mp hi with z | z
   ·exact k3 i z
   ·rw[List.mem_singleton.mp z]
    exact List.mem_range.mp h1
  ·rintro⟨h1,h2,h3⟩
   rcases Zg c with rfl | ⟨d,one,rfl⟩
   ·cases h1
   ·rw[Zh] at *
    rw[Uh] at h1
    have h1':d.length+1=k+1:=h1
    have hd:d.Pairwise (· < ·):=(List.pairwise_append.mp h2).1
    exact⟨d,(tK n k d).mpr ⟨by lia,hd,fun i hi=>h3 i (List.mem_append.mpr (.inl hi))⟩,List.mem_map.mpr ⟨one,List.mem_filter.mpr ⟨List.mem_range.mpr (h3 one (by simp)),(lL hd).mp h2⟩,U⟩⟩
theorem Kz:∀ n,1<=n->n<=6->aZ n=(Ui (n+1)).flatMap (CK n):=by
 intro n h1 h6
 match n,h1,h6 with
 | 1,_,_=>decide+kernel
 | 2,_,_=>decide+kernel
 | 3,_,_=>decide+kernel
 | 4,_,_=>decide+kernel
 | 5,_,_=>decide+kernel
 | 6,_,_=>decide+kernel
theorem Iv:∀ n,n<=6->∀ k,k<=n->(CK n k).Nodup:=by decide+kernel
theorem pK {α:Type}{p:α->Bool}{f:Nat->List α}{x:α}:∀ {m:Nat},((Ui m).flatMap f).find? p=some x->∃ k,k < m/\(f k).find? p=some x/\∀ j < k,(f j).find? p=none
 | 0,h=>by cases h
 | m+1,h=>by
  rw[Xm,ZJ,List.find?_append] at h
  cases e:((Ui m).flatMap f).find? p with
  | some y =>
   rw[e] at h
   cases h
   obtain⟨k,h1,h2⟩:=pK e
   exact⟨k,by lia,h2⟩
  | none =>
   rw[e] at h
   have h':(f m).find? p=some x:=by simpa using h
   refine⟨m,Wb m,h',fun j hj=>?_⟩
   rw[List.find?_eq_none] at e ⊢
   exact fun y hy=>e y (List.mem_flatMap.mpr ⟨j,List.mem_range.mpr hj,hy⟩)
def hit (n:Nat)(bk:List (List Pl))(fl hi:IN)(c:IP):Bool:=decide (bg n bk fl hi c=hi)
section
variable {n:Nat}{fl hi:IN}{bk:List (List Pl)}
theorem xH (hb:bk.length=n)(ok:okB bk)(hf:okG n fl)(hh:vC n fl bk hi)(n1:1<=n)(n6:n<=6):∃ x,(aZ n).find? (hit n bk fl hi)=some x/\∃ k,k<=n/\(bf n bk fl hi k).find? (hit n bk fl hi)=some x/\∀ j < k,∀ c∈bf n bk fl hi j,hit n bk fl hi c=false:=by
 rw[Kz n n1 n6]
 have ex:Ui n∈(Ui (n+1)).flatMap (CK n):=List.mem_flatMap.mpr ⟨n,List.mem_range.mpr (Wb n),(tK n n _).mpr ⟨UJ,List.pairwise_lt_range,fun i hi=>List.mem_range.mp hi⟩⟩
 cases e:((Ui (n+1)).flatMap (CK n)).find? (hit n bk fl hi) with
 | none =>
  rw[List.find?_eq_none] at e
  refine absurd ?_ (e _ ex)
  unfold hit
  rw[Pq hb ok hf hh]
  exact dcT U
 | some x =>
  refine⟨x,U,?_⟩
  obtain⟨k,hk,hx,hj⟩:=pK e
  have hno:∀ j < k,∀ c∈CK n j,hit n bk fl hi c=false:=fun j hjk c hc=>by
   have:=List.find?_eq_none.mp (hj j hjk) c hc
   simpa using this
  have xin:=YB hx
  have xh:bg n bk fl hi x=hi:=by
   have:=YQ hx
   unfold hit at this
   exact of_decide_eq_true this
  obtain⟨xl,xp,xn⟩:=(tK n k x).mp xin
  have pre:∀ m,m<=k->x.take m∈bf n bk fl hi m:=by
   intro m
   induction m with
   | zero=>intro _;rw[Vs,bf];exact List.mem_singleton.mpr U
   | succ m ih =>
    intro hm
    have hml:m < x.length:=by lia
    have et:x.take (m+1)=x.take m++[x[m]]:=by rw[Ux,TJ hml];rfl
    have hone:=xn x[m] (VD hml)
    rw[et,bf,List.mem_flatMap]
    refine⟨x.take m,ih (by lia),List.mem_map.mpr ⟨x[m],List.mem_filter.mpr ⟨List.mem_range.mpr hone,?_⟩,U⟩⟩
    have hpt:(x.take (m+1)).Pairwise (· < ·):=xp.sublist (aac _ _)
    rw[et] at hpt
    have hp0:(x.take m).Pairwise (· < ·):=xp.sublist (aac _ _)
    rw[(lL hp0).mp hpt,Bool.and_true,decide_eq_true_eq]
    refine Int.not_le.mp fun hge=>?_
    have xe:x=x.take m++x[m]::x.drop (m+1):=by rw[List.getElem_cons_drop,List.take_append_drop]
    have hd:bg n bk fl hi x=bg n bk fl hi (x.take m++x.drop (m+1)):=by
     refine Oh hb ok hf hh (c:=x.take m) hone (fun i hi=>List.mem_append.mpr (.inl hi)) (fun i=>?_) hge
     constructor
     ·intro hi
      rw[xe] at hi
      rcases List.mem_append.mp hi with z | z
      ·exact .inl (List.mem_append.mpr (.inl z))
      ·rcases List.mem_cons.mp z with z | z
       ·exact .inr z
       ·exact .inl (List.mem_append.mpr (.inr z))
     ·rintro (hi | hi)
      ·rcases List.mem_append.mp hi with z | z
       ·exact Xx z
       ·exact List.mem_of_mem_drop z
      ·rw[hi]
       exact VD hml
    have sub:Zd (x.take m++x.drop (m+1)) x:=by
     rw[xe]
     have t1:(x.take m++x[m]::x.drop (m+1)).take m=x.take m:=by rw[← xe]
     have t2:(x.take m++x[m]::x.drop (m+1)).drop (m+1)=x.drop (m+1):=by rw[← xe]
     rw[t1,t2]
     exact List.Sublist.append (abC _) (List.sublist_cons_self _ _)
    have:=hno (k - 1) (by lia) (x.take m++x.drop (m+1)) ((tK n _ _).mpr ⟨by rw[Uh,Uj,V4];lia,xp.sublist sub,fun i hi=>xn i (sub.subset hi)⟩)
    unfold hit at this
    rw[← hd,xh,dcT U] at this
    cases this
  have hxk:=pre k (Ua _)
  rw[← xl,Ul] at hxk
  exact⟨k,by lia,vm (vQ n bk fl hi k) (Iv n n6 k (by lia)) hx (by rw[← xl];exact hxk),fun j hjk c hc=>hno j hjk c ((vQ n bk fl hi j).subset hc)⟩
end
theorem BX {K:UT}{a D:Addr}{xs:Lo}{g:TG}{wi1:TI}{g1:TG}{te:TE}{H1:Hp}{Q:Hp->Prop}{σ0:St}(Pv:Nat->Lo->St->Hp->Prop)(h0:Pv 0 [] σ0 (upd H1 D (.lst [])))
  (hl:∀ i ys σ H,i<=xs.length->Pv i ys σ H->SqL K H a xs)
  (hs:∀ i ys x σ H,xs[i]? = some x->Pv i ys σ H->g x σ H fun σ3 H3=>wi1 σ3 H3 fun J1 H4=>In2 D J1 g1 te (Pv (i+1)) ys σ3 H4)
  (hd:∀ ys σ H,Pv xs.length ys σ H->Q H):uX D σ0 (Itl K a) g wi1 g1 te H1 Q:=by
 refine⟨fun i m ys σ H=>m=xs.length - i/\i<=xs.length/\Pv i ys σ H,⟨xs.length,by simp,Uw _,h0⟩,?_⟩
 rintro i m ys σ H ⟨rfl,hi,p⟩
 have q:=hl i ys σ H hi p
 by_cases hlt:i < xs.length
 ·refine .inr ⟨⟨xs,xs[i],q,by simp [hlt]⟩,Pv (i+1),fun zs σ' H' p'=>⟨xs.length - (i+1),by lia,U,hlt,p'⟩,fun x H' y=>?_⟩
  obtain⟨e,y⟩:=y
  subst e
  exact hs i ys x σ _ (y xs q) p
 ·have e:i=xs.length:=by lia
  subst e
  exact .inl ⟨⟨xs,q,Ua _⟩,hd ys σ H p⟩
abbrev gB:Stmt:=top 25
abbrev uT:Stmt:=top 26
theorem jy:aK ["book","whole","crowd","giving","folk"] X1 (aD gB):=gC
theorem iI:aK ["book","floor","whole","pairs","crowd","giving"] ZI (aD uT):=gC
inductive CG (H0 H:Hp)(D:Addr):Lo->HK->Prop where
 | nil:CG H0 H D [] []
 | cons {p a g:Addr} {c:IP} {y:IN} {us:Lo} {cs:HK}:H p=some (.tup [.ref a,.ref g])->H a=some (.lst (c.map vN))->a≠D->H0 a=none->H g=some (.tup (y.map V.int))->CG H0 H D us cs->CG H0 H D (.ref p::us) ((c,y)::cs)
theorem CG.go {H0 H1 H H':Hp}{D D':Addr}(e0:∀ a,H0 a=none->H1 a=none)(eT:∀ a xs,H a=some (HO.tup xs)->H' a=some (HO.tup xs))(eL:∀ (a:Addr) (c:IP),H a=some (HO.lst (c.map vN))->a≠D->H' a=some (HO.lst (c.map vN))/\a≠D'):∀ {us:Lo} {cs:HK},CG H0 H D us cs->CG H1 H' D' us cs
 | _,_,.nil=>.nil
 | _,_,.cons h1 h2 h3 h4 h5 r=>.cons (eT _ _ h1) (eL _ _ h2 h3).1 (eL _ _ h2 h3).2 (e0 _ h4) (eT _ _ h5) (CG.go e0 eT eL r)
theorem CG.mono {H0 H H':Hp}{D:Addr}(e:aG H H'){us:Lo}{cs:HK}(h:CG H0 H D us cs):CG H0 H' D us cs:=h.go (fun _ z=>z) (fun a xs q=>e a _ q) fun a c q n=>⟨e a _ q,n⟩
theorem CG.upd {H0 H:Hp}{D:Addr}{zs zs':Lo}(hD:H D=some (.lst zs)){us:Lo}{cs:HK}(h:CG H0 H D us cs):CG H0 (upd H D (.lst zs')) D us cs:=h.go (fun _ z=>z) (bO hD) fun a c q n=>⟨by rw[aR n];exact q,n⟩
theorem CG.goN {H0 H:Hp}{D D':Addr}{o:HO}(hD:H0 D'=some o):∀ {us:Lo} {cs:HK},CG H0 H D us cs->CG H0 H D' us cs
 | _,_,.nil=>.nil
 | _,_,.cons h1 h2 _ h4 h5 r=>.cons h1 h2 (fun z=>by rw[z,hD] at h4;cases h4) h4 h5 (CG.goN hD r)
theorem CG.length {H0 H:Hp}{D:Addr}:∀ {us:Lo} {cs:HK},CG H0 H D us cs->us.length=cs.length
 | _,_,.nil=>rfl
 | _,_,.cons _ _ _ _ _ r=>by rw[Um,Um,CG.length r]
theorem CG.snoc {H0 H:Hp}{D p a g:Addr}{c:IP}{y:IN}(h1:H p=some (.tup [.ref a,.ref g]))(h2:H a=some (.lst (c.map vN)))(h3:a≠D)(h4:H0 a=none)(h5:H g=some (.tup (y.map V.int))):∀ {us:Lo} {cs:HK},CG H0 H D us cs->CG H0 H D (us++[.ref p]) (cs++[(c,y)])
 | _,_,.nil=>.cons h1 h2 h3 h4 h5 .nil
 | _,_,.cons k1 k2 k3 k4 k5 r=>.cons k1 k2 k3 k4 k5 (CG.snoc h1 h2 h3 h4 h5 r)
theorem CG.at {H0 H:Hp}{D:Addr}:∀ {us:Lo} {cs:HK} {i:Nat} {u:V},CG H0 H D us cs->us[i]? = some u->∃ (p a g:Addr) (c:IP) (y:IN),u = .ref p/\cs[i]? = some (c,y)/\H p=some (.tup [.ref a,.ref g])/\H a=some (.lst (c.map vN))/\a≠D/\H0 a=none/\H g=some (.tup (y.map V.int))
 | _,_,_,_,.nil,h=>by simp at h
 | _,_,0,_,.cons h1 h2 h3 h4 h5 _,e=>by
  cases (show some _=some _ from e)
  exact⟨_,_,_,_,_,U,U,h1,h2,h3,h4,h5⟩
 | _,_,i+1,_,.cons _ _ _ _ _ r,e=>by
  obtain⟨p,a,g,c,y,k1,k2,k3⟩:=CG.at (i:=i) r (by simpa using e)
  exact⟨p,a,g,c,y,k1,by simpa using k2,k3⟩
theorem wB {p:Nat->Bool}(i:Nat):(Ui (i+1)).filter p=(Ui i).filter p++if p i=true then [i] else []:=by
 rw[Xm,Yd,W0,aaL]
theorem JZ {p:Nat->Bool}{l:IP}{i a:Nat}(h:l[i]? = some a):(l.take (i+1)).filter p=(l.take i).filter p++if p a=true then [a] else []:=by
 rw[Ux,h,Yd]
 show _++List.filter _ [a]=_
 rw[W0,aaL]
inductive Lr (vs:Lo)(H:Hp)(Q:VK)(e3:XK):Prop where
 | mk (b wh cr g:Addr) (n:Nat) (bk:List (List Pl)) (hi y:IN) (c:IP) (_:vs=[.ref b,.ref wh,.ref cr,.ref g]) (_:rO n H b bk) (_:bk.length=n) (_:H wh=some (.tup (hi.map V.int))) (_:okG n hi) (_:H cr=some (.lst (c.map vN))) (_:c.length<=12) (_:H g=some (.tup (y.map V.int))) (_:okG n y) (_:∀ (r:Addr) (us:Lo) (H':Hp),aG H H'->H r=none->H' r=some (.lst us)->CG H H' r us (((Ui n).filter fun one=>decide (y.getD one 0 < hi.getD one 0) && cZ c one).map fun one=>(c++[one],cl n bk (lfF y hi [one])))->Q (.ref r) H')
theorem oY {k:Nat} (F:Fun K "with_one_more" "with_one_more" gB f fd) (B:Bt mg)
  (WP:Df P w K mg base "least" (k+1) ZI (mX Gy)) (WS:Df P w K mg base "lifted" 1 YR sS) :
  dF P w K mg base CX0 (k+2) f fd X1 Lr:=by
 refine okA F jy fun H Q E hr h=>?_
 obtain⟨b,wh,cr,g,n,bk,hi,y,c,rfl,hB,lb,hw,oh,hcr,cl12,hg,oy,q⟩:=h
 refine⟨_,(aq (uI (L:=["one","step"]) (F:=["whole"]) (cap:=[1]) (j:=4) jy.nd U (Zz U) U (aV U U (by kernel_rfl)) (uK U B.enumerate_ (v1 3)) (fun _ _ _ _ _=>(du (K:=K) 2 U U (aQ (pgC 0) (aQ (pgC 1) dw)))) (fun _ _ _ _ _=>(qM (aU Cv (pv 1) (pxT K (pv 2) (pv 0))))) (fun _ _ _ _ _=>(pv 0)))
 (sR (bh (L:=["one"]) (F:=["crowd","book","giving","whole"]) (cap:=[2,0,3,1]) U (aV U U (by kernel_rfl)) (cB (pv 4)) (fun _ _ _ _ _=>(pgC 0)) (fun _ _ _ _ _=>(qM (PW.pt (Mt (aU dg (pln K B.len_ (pv 1)) aj) (DY (aU tZ (pv 0) (pxL K (pv 1) (yO pP aj)))))))) (fun _ _ _ _ _=>(bD (au (aH lX (pv 1) (aX (v1 0))) (a1 (aP WP hr (au (pv 2) (a1 (aP WS hr (au (pv 3) (au (pv 4) (a1 (aX (v1 0)))))))))))))))),?_⟩
 have okb:=hB.okB
 have b12:n<=12:=by obtain⟨_,_,_,h⟩:=hB;lia
 refine⟨_,U,g,_,U,sqT hg,fun D hD=>nD (K:=K) (a:=g) (xs:=y.map V.int) (fun i zs σ' H3=>(∃ u v,σ'=[u,v,oR wh])/\aG H H3/\H3 D=some (.lst zs)/\zs=((Ui i).filter fun j=>decide (y.getD j 0 < hi.getD j 0)).map vN)
  ⟨⟨_,_,U⟩,aA hD _,aa,U⟩ (fun i zs σ' H3 _ h=>⟨sqT (h.2.1 _ _ hg),h.2.2.1⟩) ?_ ?_⟩
 ·rintro i zs x p σ' H3 hx hp ⟨⟨u,v,rfl⟩,sm,eD,ez⟩
  obtain⟨y1,hy1,rfl⟩:=int_at hx
  have hin:=(geS hy1).1
  generalize eH4:upd H3 p _=H4
  obtain⟨g4,e4⟩:=aC eH4 hp
  have s4:=sm.trans g4
  refine⟨p,_,U,sqT e4,U,_,_,U,_,_,U,U,?_⟩
  have hih:i < hi.length:=by rw[oh.1,← oy.1];exact hin
  have gy:y.getD i 0=y1:=by rw[TQ,hy1];rfl
  have gi:hi.getD i 0=hi[i]:=by rw[TQ,TJ hih];rfl
  have lz:zs.length<=i:=by
   rw[ez,Tw]
   exact Vd (Wn _ _) (by rw[UJ];exact Ua _)
  have l12:i<=12:=by have:=oy.1;lia
  refine⟨_,U,_,U,_,U,wh,_,_,_,U,U,sqT (s4 _ _ hw),jJ hih,_,_,U,U,_,U,?_⟩
  by_cases c1:y1 < hi[i]
  ·rw[dcT c1]
   refine gF ⟨_,U,g4 _ _ eD,aB (by lia),⟨_,_,U⟩,aF s4 hD _,aa,?_⟩
   rw[wB,iPo (by rw[gy,gi];exact dcT c1),T9,← ez]
   rfl
  ·rw[dcF c1]
   refine fC ⟨⟨_,_,U⟩,s4,g4 _ _ eD,?_⟩
   rw[wB,iNe (by rw[gy,gi];simp [c1]),Wa]
   exact ez
 ·rintro zs σ' H3 ⟨_,s3,eD,ez⟩
  rw[Tw,oy.1] at ez
  have fl12:((Ui n).filter fun j=>decide (y.getD j 0 < hi.getD j 0)).length<=12:=Vd (Wn _ _) (by rw[UJ];lia)
  have fmem:∀ one∈(Ui n).filter (fun j=>decide (y.getD j 0 < hi.getD j 0)),one < n:=fun one h=>List.mem_range.mp (List.mem_filter.mp h).1
  have ffin:((Ui n).filter fun one=>decide (y.getD one 0 < hi.getD one 0) && cZ c one)=((Ui n).filter fun j=>decide (y.getD j 0 < hi.getD j 0)).filter (cZ c):=by
   rw[abg]
   congr 1
   funext a
   exact Bool.and_comm _ _
  rw[ffin] at q
  generalize (Ui n).filter (fun j=>decide (y.getD j 0 < hi.getD j 0))=fk at *
  subst ez
  refine⟨_,U,D,U,⟨_,sqL eD⟩,fun D2 hD2=>bV (K:=K) (a:=D) (xs:=fk.map vN) (fun i ys σ' Hy=>(∃ u,σ'=[u,oR cr,oR b,oR g,oR wh])/\aG H3 Hy/\Hy D2=some (.lst ys)/\CG H Hy D2 ys (((fk.take i).filter (cZ c)).map fun one=>(c++[one],cl n bk (lfF y hi [one]))))
   ⟨⟨_,U⟩,aA hD2 _,aa,by rw[Vs];exact .nil⟩ (fun i ys σ' Hy _ h=>⟨sqL (h.2.1 _ _ eD),h.2.2.1⟩) ?_ ?_⟩
  ·rintro i ys x σ' Hy hx ⟨⟨u,rfl⟩,sy,eD2,cg⟩
   obtain⟨one,hone,rfl⟩:=pM hx
   have onen:=fmem one (Ud hone)
   have s0y:=s3.trans sy
   have nx:=JZ (p:=cZ c) hone
   have hcy:=s0y _ _ hcr
   have lys:=cg.length
   have lyf:=Wn (cZ c) (fk.take i)
   rw[Tw] at lys
   rw[Uj] at lyf
   have elt:∀ Q':V->Hp->Prop,(∀ (p a2 g2:Addr) (Hz:Hp),aG Hy Hz->Hz p=some (.tup [.ref a2,.ref g2])->Hz a2=some (.lst ((c++[one]).map vN))->Hy a2=none->Hz g2=some (.tup ((cl n bk (lfF y hi [one])).map V.int))->Q' (.ref p) Hz) →
     O1 (dI (tOp Ra (lF 1) (QB (dI (lF 0) uz))) (dI (Cg (mX Gy) [] E0 (dI (lF 2) (dI (Cg sS [] E0 (dI (lF 3) (dI (lF 4) (dI (QB (dI (lF 0) uz)) uz)))) uz))) uz)) [some (vN one),some (.ref cr),some (.ref b),some (.ref g),some (.ref wh)] Hy Q':=fun Q' fin=>by
    refine⟨_,U,_,U,smN 1,fun p1 h1=>?_⟩
    generalize eHa:upd Hy p1 _=Ha
    obtain⟨ga,ea⟩:=aC eHa h1
    refine⟨cr,p1,_,_,U,U,ga _ _ hcy,ea,small (by rw[Tw];show c.length+1<=1000;lia),fun a2 h2=>?_⟩
    generalize eHb:upd Ha a2 _=Hb
    obtain⟨gb,eb⟩:=aC eHb h2
    have fr2:Hy a2=none:=ga.free h2
    refine⟨_,U,_,U,_,U,_,U,smN 1,fun p3 h3=>?_⟩
    generalize eHc:upd Hb p3 _=Hc
    obtain⟨gc,ec⟩:=aC eHc h3
    have syc:=ga.trans (gb.trans gc)
    have s0c:=s0y.trans syc
    refine⟨g,wh,p3,y,hi,[one],U,s0c _ _ hg,s0c _ _ hw,ec,by rw[oy.1,oh.1],by rw[oy.1];lia,fun a4 Hd sd e4=>?_⟩
    have ox:=cX (c:=[one]) oy oh
    refine⟨b,a4,n,bk,_,U,hB.mono (s0c.trans sd),lb,e4,ox,fun m5 a5 He _ st5 se e5=>?_⟩
    rw[← DX (cM lb okb ox st5)] at e5
    refine⟨smN 2,fun p6 h6=>?_⟩
    have gn:=aA h6 (.tup [.ref a2,.ref a5])
    have sbe:=gc.trans (sd.trans (se.trans gn))
    refine fin p6 a2 a5 _ (ga.trans (gb.trans sbe)) aa ?_ fr2 (gn _ _ e5)
    rw[sbe _ _ eb,T9]
    rfl
   have yes:cZ c one=true->∀ Q':V->Hp->Prop,(∀ (p:Addr) (Hz:Hp),Hz D2=some (.lst ys)/\ys.length < sizeLine/\(∃ u:Lc,[some (vN one),some (.ref cr),some (.ref b),some (.ref g),some (.ref wh)]=[u,some (V.ref cr),some (.ref b),some (.ref g),some (.ref wh)])/\aG H3 (upd Hz D2 (.lst (ys++[.ref p])))/\upd Hz D2 (.lst (ys++[.ref p])) D2=some (.lst (ys++[.ref p]))/\CG H (upd Hz D2 (.lst (ys++[.ref p]))) D2 (ys++[.ref p]) (((fk.take (i+1)).filter (cZ c)).map fun one=>(c++[one],cl n bk (lfF y hi [one])))->Q' (.ref p) Hz) →
     O1 (dI (tOp Ra (lF 1) (QB (dI (lF 0) uz))) (dI (Cg (mX Gy) [] E0 (dI (lF 2) (dI (Cg sS [] E0 (dI (lF 3) (dI (lF 4) (dI (QB (dI (lF 0) uz)) uz)))) uz))) uz)) [some (vN one),some (.ref cr),some (.ref b),some (.ref g),some (.ref wh)] Hy Q':=fun hl Q' fin=>by
    refine elt Q' fun p a2 g2 Hz sz ep ea2 fr2 eg2=>fin p Hz ?_
    have eDz:=sz _ _ eD2
    have n2:a2≠D2:=fun z=>by rw[z,eD2] at fr2;cases fr2
    refine⟨eDz,aB (by lia),⟨_,U⟩,aF (sy.trans sz) hD2 _,aa,?_⟩
    rw[nx,iPo hl,T9]
    exact (CG.snoc ep ea2 n2 (s0y.free fr2) eg2 (cg.mono sz)).upd eDz
   have no:cZ c one=false->aG H3 Hy/\Hy D2=some (.lst ys)/\CG H Hy D2 ys (((fk.take (i+1)).filter (cZ c)).map fun one=>(c++[one],cl n bk (lfF y hi [one]))):=fun hl=>by
    rw[nx,iNe (by rw[hl];exact Uc),Wa]
    exact⟨sy,eD2,cg⟩
   refine⟨_,U,cr,_,U,.inl (sqL hcy),U,_,U,?_⟩
   rcases Zg c with hc0 | ⟨d,l,hc0⟩
   ·have hl:cZ c one=true:=by rw[hc0];rfl
    rw[show decide (V.int ((c.map vN).length:Int)=V.int 0)=true by rw[hc0];rfl]
    refine gF ?_
    show if true=true then _ else _
    exact gF (yes hl _ fun p Hz h=>h)
   ·rw[Zh] at hc0
    have hll:cZ c one=decide (l < one):=by rw[hc0];exact qp _ _ _
    rw[show decide (V.int ((c.map vN).length:Int)=V.int 0)=false from dcF (fun z=>by have:=V.int.inj z;rw[Tw,hc0,Uh] at this;have h1:([l]:IP).length=1:=rfl;lia)]
    have at1:atI (c.map vN) (-1)=some (vN l):=Bm (by rw[Tw,hc0,Uh,T9];show (d.map vN++[vN l])[d.length+1 - 1]? = _;rw[Nat.add_sub_cancel,Vl (by rw[Tw];exact Ua _),Tw,abu];rfl)
    refine fC ⟨_,U,_,U,_,U,cr,_,_,_,U,U,sqL hcy,at1,_,_,U,U,_,U,?_⟩
    by_cases hlt:l < one
    ·have hl:cZ c one=true:=by rw[hll];exact dcT hlt
     rw[dcT (show (one:Int) > (l:Int) by lia)]
     exact gF (yes hl _ fun p Hz h=>h)
    ·have hl:cZ c one=false:=by rw[hll];exact dcF hlt
     rw[dcF (show ¬ (one:Int) > (l:Int) by lia)]
     exact fC ⟨⟨_,U⟩,no hl⟩
  ·rintro ys σ' Hy ⟨_,sy,eD2,cg⟩
   rw[Tw,Ul] at cg
   exact q D2 ys Hy (s3.trans sy) (s3.free hD2) eD2 cg
theorem HN {α:Type}{p:α->Bool}{x:α}:∀ {l:List α} {i:Nat},l[i]? = some x->p x=true->(∀ d∈l.take i,p d=false)->l.find? p=some x
 | [],_,h,_,_=>by simp at h
 | a::l,0,h,hx,_=>by
  cases (show some a=some x from h)
  rw[List.find?_cons_of_pos hx]
 | a::l,i+1,h,hx,k=>by
  have ha:p a=false:=k a (by rw[WQ];exact TY)
  rw[List.find?_cons_of_neg (by rw[ha];exact Uc)]
  exact HN (i:=i) (by simpa using h) hx fun d hd=>k d (by rw[WQ];exact TX _ hd)
theorem QH:∀ n,n<=6->∀ k,k<=n->(CK n k).length<=20:=by decide+kernel
def gr (n:Nat)(bk:List (List Pl))(fl hi:IN)(c:IP):HK:=(grow n bk fl hi c).map fun d=>(d,bg n bk fl hi d)
theorem Qg (n:Nat)(bk:List (List Pl))(fl hi:IN)(k:Nat):(bf n bk fl hi k).flatMap (gr n bk fl hi)=(bf n bk fl hi (k+1)).map fun d=>(d,bg n bk fl hi d):=by
 show _=((bf n bk fl hi k).flatMap (grow n bk fl hi)).map _
 rw[List.map_flatMap]
 rfl
theorem xV {α β:Type}{f:α->List β}{l:List α}{i:Nat}{c:α}(h:l[i]? = some c):(l.take (i+1)).flatMap f=(l.take i).flatMap f++f c:=by
 rw[Ux,h,ZJ]
 show _++List.flatMap f [c]=_
 rw[Xz,List.flatMap_nil,Wa]
theorem Kg {α β:Type}{f:α->List β}{l:List α}{i:Nat}{c:α}(h:l[i]? = some c)(j:Nat):((l.take i).flatMap f++(f c).take j).length<=(l.flatMap f).length:=by
 have e:l.flatMap f=(l.take (i+1)).flatMap f++(l.drop (i+1)).flatMap f:=by rw[← ZJ,List.take_append_drop]
 rw[e,xV h,Uh,Uh,Uh,Uj]
 lia
inductive zY (vs:Lo)(H:Hp)(Q:VK)(e3:XK):Prop where
 | mk (b f:Addr) (n:Nat) (bk:List (List Pl)) (fl:IN) (_:vs=[.ref b,.ref f]) (_:rO n H b bk) (_:bk.length=n) (_:1<=n) (_:n<=6) (_:H f=some (.tup (fl.map V.int))) (_:okG n fl) (_:∀ (r:Addr) (x:IP) (H':Hp),aG H H'->H r=none->H' r=some (.lst (x.map vN))->(∀ hi,vC n fl bk hi->(aZ n).find? (hit n bk fl hi)=some x)->Q (.ref r) H')
theorem Gu {k:Nat} (F:Fun K "begins" "begins" uT f fd) (B:Bt mg)
  (WP:Df P w K mg base "least" k ZI (mX Gy)) (UV:Df P w K mg base "greatest" k ZI (mX rfF)) (XB:Df P w K mg base "with_one_more" (k+1) X1 Lr) :
  dF P w K mg base CX0 (k+2) f fd ZI zY:=by
 refine okA F iI fun H Q E hr h=>?_
 obtain⟨b,f,n,bk,fl,rfl,hB,lb,n1,n6,hf,of,q⟩:=h
 refine⟨_,(aq (sTc 2 iI.nd (aP UV hr (v2 0 1)))
 (aq (sT 3 iI.nd (aX (a1 (bD (au (aX cY) (a1 (aP WP hr (v2 0 1))))))))
 (aO (o8 U3 (iQ mF) (aq (cW U3 U (cB (pv 3)) (du (K:=K) 2 U U (aQ (pgN 4 iI.nd) (aQ (pgN 5 iI.nd) dw))) (aO (ifR (aU (r:=vD K) (kW hr.gU) (pv 5) (pv 2)) (pv 4))))
 (aO (Jp (L:=["crowd","giving","pair"]) (F:=["book","whole"]) (cap:=[0,2]) (j:=3) iI.nd U (Zz U) U (aV U U (by kernel_rfl)) (cB (pv 3)) (fun _ _ _ _ _=>(du (K:=K) 2 U U (aQ (pgC 0) (aQ (pgC 1) dw)))) (fun _ _ _ _ _=>(o7 K U (aP XB hr (au (pv 3) (au (pv 4) (v2 0 1)))))) (fun _ _ _ _ _=>(pgC 2)) (fun _ _ _ _ _=>(pv 2))))))))),?_⟩
 have okb:=hB.okB
 refine⟨_,U,_,U,b,f,n,bk,fl,U,hB,lb,hf,of,fun m2 wh H2 _ st2 s2 e2=>?_⟩
 have hh:=jc lb okb of st2
 generalize itF (Fd fl bk) (rfF fl bk) m2=hi at *
 obtain⟨x,fx,kst,hkn,fk,hno⟩:=xH lb okb of hh n1 n6
 have q':∀ (r:Addr) (H':Hp),aG H H'->H r=none->H' r=some (.lst (x.map vN))->Q (.ref r) H':=fun r H' sH hr0 er=>q r x H' sH hr0 er fun hi' hh'=>by rw[hh'.uniq hh];exact fx
 refine⟨smN 0,fun p0 h0=>?_⟩
 generalize eHa:upd H2 p0 _=Ha
 obtain⟨ga,ea⟩:=aC eHa h0
 refine⟨_,U,_,U,b,f,n,bk,fl,U,hB.mono (s2.trans ga),lb,(s2.trans ga) _ _ hf,of,fun m3 lo Hb _ st3 sb eb=>?_⟩
 have elo:=Gr lb okb of hh (cM lb okb of st3)
 rw[← elo] at eb
 refine⟨smN 2,fun p1 h1=>?_⟩
 generalize eHc:upd Hb p1 _=Hc
 obtain⟨gc,ec⟩:=aC eHc h1
 refine⟨smN 1,fun p2 h2=>?_⟩
 generalize eHd:upd Hc p2 _=Hd
 obtain⟨gd,ed⟩:=aC eHd h2
 have s2d:=ga.trans (sb.trans (gc.trans gd))
 have p0d:Hd p0=some (.lst (([]:IP).map vN)):=(sb.trans (gc.trans gd)) _ _ ea
 have np:p0≠p2:=fun z=>by
  have:=(sb.trans gc) _ _ ea
  rw[z,h2] at this
  cases this
 refine⟨fun m σ H3=>∃ (k:Nat) (pa:Addr) (us:Lo) (u v:Lc),k+m=kst/\σ=[oR b,oR f,oR wh,oR pa,u,v]/\aG H2 H3/\H3 pa=some (.lst us)/\CG H H3 pa us ((bf n bk fl hi k).map fun c=>(c,bg n bk fl hi c)),?_,?_⟩
 ·exact⟨kst,0,p2,_,_,_,Nat.zero_add _,U,s2d,ed,.cons (gd _ _ ec) p0d np (s2.free h0) ((gc.trans gd) _ _ eb) .nil⟩
 rintro m σ H3 ⟨k,pa,us,u,v,hm,rfl,s3,epa,cg⟩
 refine⟨_,U,gF ?_⟩
 have s03:=s2.trans s3
 refine⟨fun σ' H'=>m≠0/\∃ (pa:Addr) (us:Lo) (u v:Lc),σ'=[oR b,oR f,oR wh,oR pa,u,v]/\aG H2 H'/\H' pa=some (.lst us)/\CG H H' pa us ((bf n bk fl hi (k+1)).map fun c=>(c,bg n bk fl hi c)),?_,?_⟩
 ·rintro σ' H' ⟨m0,pa',us',u',v',e1,e2,e3,e4⟩
  exact⟨m - 1,by lia,k+1,pa',us',u',v',by lia,e1,e2,e3,e4⟩
 refine⟨_,U,pa,U,⟨_,sqL epa⟩,?_⟩
 refine jb (K:=K) (a:=pa) (xs:=us) (fun i σ' H'=>(∃ u v,σ'=[oR b,oR f,oR wh,oR pa,u,v])/\H'=H3/\∀ c∈(bf n bk fl hi k).take i,hit n bk fl hi c=false)
  ⟨⟨_,_,U⟩,U,fun c hc=>by rw[Vs] at hc;cases hc⟩ (fun i σ' H' _ h=>by rw[h.2.1];exact sqL epa) ?_ ?_
 ·rintro i w σ' H' hw ⟨⟨u,v,rfl⟩,rfl,hn⟩
  obtain⟨p,a,g,c,y,rfl,hc,k1,k2,_,k4,k5⟩:=cg.at hw
  rw[Uo] at hc
  obtain⟨c',hc',e⟩:=Option.map_eq_some_iff.mp hc
  obtain⟨rfl,rfl⟩:=Prod.mk.inj e
  refine⟨p,_,U,sqT k1,U,_,_,U,_,_,U,U,_,U,_,U,g,wh,_,_,U,U,sqT k5,sqT (s3 _ _ e2),_,U,?_⟩
  by_cases hd:bg n bk fl hi c'=hi
  ·rw[dcT hd]
   have hc1:hit n bk fl hi c'=true:=dcT hd
   refine gF ⟨_,U,?_⟩
   have hk:k=kst:=by
    rcases V0 k kst with h | h
    ·have:=hno k h c' (Ud hc')
     rw[hc1] at this
     cases this
    ·lia
   subst hk
   have:=HN hc' hc1 hn
   rw[fk] at this
   cases this
   exact q' a H' s03 k4 k2
  ·rw[dcF hd]
   refine fC ⟨⟨_,_,U⟩,U,fun d hd'=>?_⟩
   rw[Ux,hc',aaK] at hd'
   rcases hd' with h | h
   ·exact hn d h
   ·cases List.mem_singleton.mp h
    exact dcF hd
 rintro σ' H' ⟨⟨u,v,rfl⟩,rfl,hn⟩
 have lus:=cg.length
 rw[Tw] at lus
 rw[lus,Ul] at hn
 have hk:k < kst:=by
  rcases V0 k kst with h | h
  ·exact h
  ·have:k=kst:=by lia
   subst this
   have h1:=hn x (YB fk)
   rw[YQ fk] at h1
   cases h1
 have lim:(((bf n bk fl hi k).flatMap (gr n bk fl hi))).length<=20:=by
  rw[Qg,Tw]
  exact Vd (vQ n bk fl hi (k+1)).length_le (QH n n6 (k+1) (by lia))
 refine⟨_,U,pa,U,⟨_,sqL epa⟩,fun D hD=>BX (K:=K) (a:=pa) (xs:=us) (fun i ys σ' Hy=>(∃ u v z,σ'=[u,v,z,oR b,oR wh])/\aG H' Hy/\Hy D=some (.lst ys)/\CG H Hy D ys (((bf n bk fl hi k).take i).flatMap (gr n bk fl hi)))
  ⟨⟨_,_,_,U⟩,aA hD _,aa,by rw[Vs];exact .nil⟩ (fun i ys σ' Hy _ h=>sqL (h.2.1 _ _ epa)) ?_ ?_⟩
 ·rintro i ys w σ' Hy hw ⟨⟨u,v,z,rfl⟩,sy,eD,cy⟩
  obtain⟨p,a,g,c,y,rfl,hc,k1,k2,_,k4,k5⟩:=cg.at hw
  rw[Uo] at hc
  obtain⟨c',hc',e⟩:=Option.map_eq_some_iff.mp hc
  obtain⟨rfl,rfl⟩:=Prod.mk.inj e
  have sb2:=s03.trans sy
  have clen:c'.length=k:=((tK n k c').mp ((vQ n bk fl hi k).subset (Ud hc'))).1
  have okc:okG n (bg n bk fl hi c'):=(qt lb okb of hh c').1
  refine⟨p,_,U,sqT (sy _ _ k1),U,_,_,U,_,_,U,U,_,U,_,U,_,U,_,U,b,wh,a,g,n,bk,hi,bg n bk fl hi c',c',U,hB.mono sb2,lb,(s3.trans sy) _ _ e2,hh.1,sy _ _ k2,by lia,sy _ _ k5,okc,fun r ws Hz sz fr ez cz=>?_⟩
  have ecz:(((Ui n).filter fun one=>decide ((bg n bk fl hi c').getD one 0 < hi.getD one 0) && cZ c' one).map fun one=>(c'++[one],cl n bk (lfF (bg n bk fl hi c') hi [one])))=gr n bk fl hi c':=by
   show _=aby _ (aby _ _)
   rw[W4]
   refine ZG fun one _=>?_
   show _=(_,_)
   rw[Ma lb okb of hh c' one]
  rw[ecz] at cz
  have cz':CG Hy Hz D ws (gr n bk fl hi c'):=cz.goN eD
  have nr:r≠D:=fun z=>by rw[z,eD] at fr;cases fr
  refine⟨r,U,⟨_,sqL ez⟩,JN (K:=K) (b:=r) (ws:=ws) (fun j zs σ' Hz=>(∃ u v z,σ'=[u,v,z,oR b,oR wh])/\aG H' Hz/\Hz r=some (.lst ws)/\CG Hy Hz D ws (gr n bk fl hi c')/\Hz D=some (.lst zs)/\CG H Hz D zs (((bf n bk fl hi k).take i).flatMap (gr n bk fl hi)++(gr n bk fl hi c').take j))
   ⟨⟨_,_,_,U⟩,sy.trans sz,ez,cz',sz _ _ eD,by rw[Vs,Wa];exact cy.mono sz⟩ (fun j zs σ' Hz _ h=>sqL h.2.2.1) ?_ ?_⟩
  ·rintro j zs w σ' Hx hw ⟨⟨u,v,z,rfl⟩,sx,er,cx,eDx,cgx⟩
   obtain⟨p',a',g',d,y,rfl,hd,j1,j2,j3,j4,j5⟩:=cx.at hw
   have ln:=cgx.length
   have ll:=Kg (f:=gr n bk fl hi) hc' j
   refine⟨_,U,eDx,aB (by lia),⟨_,_,_,U⟩,aF sx hD _,by rw[aR nr];exact er,cx.upd eDx,aa,?_⟩
   rw[Ux,hd,← Wk]
   exact (CG.snoc j1 j2 j3 (sb2.free j4) j5 cgx).upd eDx
  ·rintro zs σ' Hx ⟨hs,sx,_,cx,eDx,cgx⟩
   rw[cx.length,Ul,← xV hc'] at cgx
   exact⟨hs,sx,eDx,cgx⟩
 ·rintro ys σ' Hy ⟨_,sy,eD,cy⟩
  rw[lus,Ul,Qg] at cy
  exact⟨by lia,D,ys,u,v,U,s3.trans sy,eD,cy⟩
theorem Dv {n:Nat}{fl hi:IN}{bk:List (List Pl)}{x:IP}{lo:IN}(n1:1<=n)(n6:n<=6)(hb:bk.length=n)(ok:okB bk)(hf:okG n fl)(hh:vC n fl bk hi)(low:Low n fl bk lo)(h:(aZ n).find? (hit n bk fl hi)=some x) :
  x.isEmpty=decide (lo=hi):=by
 have e0:hit n bk fl hi []=decide (lo=hi):=by unfold hit;rw[Gr hb ok hf hh low]
 have ec:aZ n=[]::(WW 1 n).flatMap (CK n):=by
  rw[Kz n n1 n6,List.range_eq_range',List.range'_succ,Xz]
  rfl
 by_cases e:lo=hi
 ·rw[dcT e] at e0 ⊢
  rw[ec,List.find?_cons_of_pos e0] at h
  cases h
  rfl
 ·rw[dcF e] at e0 ⊢
  cases x with
  | nil =>
   have:=YQ h
   rw[e0] at this
   cases this
  | cons _ _=>rfl
abbrev lH:Stmt:=top 51
theorem cO:aK ["_law_book_here","_law_floor","_law_cell_here","_law_low","_law_high","_law_up","_law_down","_law_found","_law_crowd_here"] XU (aD lH):=gC
theorem gG.last {H:Hp}{us:Lo}{f:IN->IN}{x:IN}{m:Nat}(h:gG H us (jr f x m)):∃ a,atI us (-1)=some (.ref a)/\H a=some (.tup ((itF f x m).map V.int)):=by
 have e:(jr f x m)[m]? = some (itF f x m):=by
  unfold jr
  rw[Uo,Wd (Wb m)]
  rfl
 obtain⟨a,h1,h2⟩:=h.get e
 have l:=h.length
 unfold jr at l
 rw[Tw,UJ] at l
 exact⟨a,Bm (by rw[l];exact h1),h2⟩
inductive Lq (vs:Lo)(H:Hp)(Q:VK)(e3:XK):Prop where
 | mk (b f:Addr) (n:Nat) (bk:List (List Pl)) (fl:IN) (c:Int) (_:vs=[.ref b,.ref f,.int c]) (_:1<=n) (_:n<=6) (_:rO n H b bk) (_:bk.length=n) (_:H f=some (.tup (fl.map V.int))) (_:okG n fl) (_:∀ H',aG H H'->Q (.bl true) H')
theorem vR (F:Fun K "_law_asked" "_law_asked" lH f fd) (B:Bt mg) (VT:Df P w K mg base "_law_draws" 1 Ya (jk K)) (WI:Df P w K mg base "_law_step_by_step" 7 XO zy) (WE:Df P w K mg base "_law_roof" 1 Yf (Bg K))
  (WZ:Df P w K mg base "rise" 12 ZI (nO Gy)) (UU:Df P w K mg base "fall" 12 ZI (nO rfF)) (WP:Df P w K mg base "least" 13 ZI (mX Gy)) (UV:Df P w K mg base "greatest" 13 ZI (mX rfF)) (U1:Df P w K mg base "knots" 14 ZI En) (VX:Df P w K mg base "_law_knots" 9 Yf zW)
  (UQ:Df P w K mg base "alone" 14 Zl Ew) (VA:Df P w K mg base "_law_alone" 7 XG vo) (US:Df P w K mg base "begins" 15 ZI zY) (WF:Df P w K mg base "_law_same" 3 YN (sY 3)):dF P w K mg base CX0 16 f fd XU Lq:=by
 refine okA F cO fun H Q E hr h=>?_
 obtain⟨b,f,n,bk,fl,c,rfl,n1,n6,hB,lb,hf,of,q⟩:=h
 have okb:=hB.okB
 refine⟨_,(aq (sT 3 cO.nd (aP WI hr (au (pv 0) (v2 1 1))))
 (aq (sT 4 cO.nd (aP WI hr (au (pv 0) (au (pv 1) (a1 (aP WE hr (v2 0 1)))))))
 (aq (sT 5 cO.nd (aP WZ hr (v2 0 1)))
 (aq (sT 6 cO.nd (aP UU hr (v2 0 1)))
 (aq (ifR (rY (iQ (aP WF hr (au (aX (au (aP WP hr (v2 0 1)) (au (aP UV hr (v2 0 1)) (au (pxL K (pv 5) (yO pP aj)) (a1 (pxL K (pv 6) (yO pP aj))))))) (a1 (aX (au (pv 3) (au (pv 4) (v2 3 4))))))))) mF)
 (aq (cu (Ez Uz PySem.F.slot_list_reverse PySem.F.type_list_reverse sX (pv 5)))
 (aq (cu (jF Uz Vb Va bI (pv 6) (a1 (bD cY))))
 (aq (sT 7 cO.nd (aP U1 hr (v2 0 1)))
 (aq (ifR (rY (iQ (aP WF hr (au (pv 7) (a1 (aP VX hr (v2 0 1))))))) mF)
 (aq (cu (jF Uz Vb Va bI (pv 7) (a1 (aX cY))))
 (aq (uI (L:=ZO) (F:=["_law_cell_here"]) (cap:=[2]) (j:=8) cO.nd U (Zz U) U (aV U U (by kernel_rfl)) (bM U B.range_ (a1 (pln K B.len_ (pv 0)))) (fun _ _ _ _ _=>(pgC 0)) (fun _ _ _ _ _=>(qM (aU dg (pxL K (aP VT hr (au (aH bF (pv 1) (pv 0)) (a1 (aX (a1 aj))))) aj) aj))) (fun _ _ _ _ _=>(pv 0)))
 (aq (ifR (rY (iQ (aP WF hr (au (aP UQ hr (au (pv 0) (v2 1 8))) (a1 (aP VA hr (au (pv 0) (au (pv 1) (v2 3 8))))))))) mF)
 (sR (dX dg (dX (r:=Rh K) (Kr hr.gU) (aP US hr (v2 0 1)) (aX cY)) (dX (r:=vD K) (kW hr.gU) (pv 3) (pv 4)))))))))))))))),?_⟩
 refine jD (fun σ H1=>∃ (la:Addr) (lo:IN),σ=[oR b,oR f,oI c,oR la,none,none,none,none,none]/\aG H H1/\H1 la=some (.tup (lo.map V.int))/\Low n fl bk lo) ?_ ?_
 ·intro N Rc
  refine⟨_,U,_,U,_,U,b,f,f,n,bk,fl,fl,true,U,hB,lb,hf,of,hf,of,?_,fun r z H' s1 e1 lm=>Rc _ _ ⟨r,z,U,s1,e1,sO lb okb of lm⟩⟩
  unfold Dir
  rw[iPo U]
  exact f9 lb okb of fl
 rintro σ H1 ⟨la,lo,rfl,s1,ela,low⟩
 refine jD (fun σ H2=>∃ (ha:Addr) (hi:IN),σ=[oR b,oR f,oI c,oR la,oR ha,none,none,none,none]/\aG H1 H2/\H2 ha=some (.tup (hi.map V.int))/\vC n fl bk hi) ?_ ?_
 ·intro N Rc
  refine⟨_,U,_,U,_,U,_,U,b,f,n,bk,fl,U,hB.mono s1,sqT (s1 _ _ hf),by rw[of.1,lb],fun r0 H0 s0 e0=>?_⟩
  have s10:=s1.trans s0
  refine⟨b,f,r0,n,bk,fl,rfF fl bk,false,U,hB.mono s10,lb,s10 _ _ hf,of,e0,jh lb okb of,?_,fun r z H' s2 e2 lm=>Rc _ _ ⟨r,z,U,s0.trans s2,e2,zj lb okb of lm⟩⟩
  unfold Dir
  rw[iNe Uc]
  exact ph lb okb of _
 rintro σ H2 ⟨ha,hi,rfl,s2,eha,high⟩
 replace ela:=s2 _ _ ela
 have s02:=s1.trans s2
 clear s1 s2
 refine jD (fun σ H3=>∃ (ua:Addr) (us:Lo) (m:Nat),σ=[oR b,oR f,oI c,oR la,oR ha,oR ua,none,none,none]/\aG H2 H3/\H2 ua=none/\H3 ua=some (.lst us)/\gG H3 us (jr (Fd fl bk) fl m)/\Stops (Fd fl bk) fl m/\m<=54) ?_ ?_
 ·intro N Rc
  exact⟨_,U,_,U,b,f,n,bk,fl,U,hB.mono s02,lb,s02 _ _ hf,of,fun m r us H' hm st s' fr er gr=>Rc _ _ ⟨r,us,m,U,s',fr,er,gr,st,by lia⟩⟩
 rintro σ H3 ⟨ua,us,m,rfl,s3,fua,eua,gus,stu,m54⟩
 refine jD (fun σ H4=>∃ (da:Addr) (ds:Lo) (m':Nat),σ=[oR b,oR f,oI c,oR la,oR ha,oR ua,oR da,none,none]/\aG H3 H4/\H3 da=none/\H4 da=some (.lst ds)/\gG H4 ds (jr (Fd fl bk) (rfF fl bk) m')/\Stops (Fd fl bk) (rfF fl bk) m'/\m'<=54) ?_ ?_
 ·intro N Rc
  have s03:=s02.trans s3
  exact⟨_,U,_,U,b,f,n,bk,fl,U,hB.mono s03,lb,s03 _ _ hf,of,fun m r us H' hm st s' fr er gr=>Rc _ _ ⟨r,us,m,U,s',fr,er,gr,st,by lia⟩⟩
 rintro σ H4 ⟨da,ds,m',rfl,s4,fda,eda,gds,std,m54'⟩
 have s04:=s02.trans (s3.trans s4)
 have s24:=s3.trans s4
 have nud:ua≠da:=fun z=>by rw[← z,eua] at fda;cases fda
 have lus:=gus.length
 have lds:=gds.length
 unfold jr at lus lds
 rw[Tw,UJ] at lus lds
 have l1:lo.length<=1000:=by rw[low.1.1];lia
 have l2:hi.length<=1000:=by rw[high.1.1];lia
 have eu:itF (Fd fl bk) fl m=lo:=(cM lb okb of stu).uniq low
 have ed:itF (Fd fl bk) (rfF fl bk) m'=hi:=(jc lb okb of std).uniq high
 refine jD (fun σ H5=>σ=[oR b,oR f,oI c,oR la,oR ha,oR ua,oR da,none,none]/\aG H4 H5) ?_ ?_
 ·intro N Rc
  refine⟨_,U,_,U,b,f,n,bk,fl,U,hB.mono s04,lb,s04 _ _ hf,of,fun k1 a1 F1 _ st1 f1 e1=>?_⟩
  have s0F1:=s04.trans f1
  refine⟨_,U,_,U,b,f,n,bk,fl,U,hB.mono s0F1,lb,s0F1 _ _ hf,of,fun k2 a2 F2 _ st2 f2 e2=>?_⟩
  rw[(cM lb okb of st1).uniq low] at e1
  rw[(jc lb okb of st2).uniq high] at e2
  have f12:=f1.trans f2
  obtain⟨a3,h3,e3⟩:=gus.last
  obtain⟨a4,h4,e4⟩:=gds.last
  rw[eu] at e3
  rw[ed] at e4
  refine⟨_,U,_,U,ua,_,_,_,U,U,sqL (f12 _ _ (s4 _ _ eua)),h3,_,U,_,U,da,_,_,_,U,U,sqL (f12 _ _ eda),h4,smN 4,fun p1 hp1=>?_⟩
  generalize eF3:upd F2 p1 _=F3
  obtain⟨f3,ep1⟩:=aC eF3 hp1
  refine⟨_,U,_,U,_,U,_,U,smN 4,fun p2 hp2=>?_⟩
  generalize eF4:upd F3 p2 _=F4
  obtain⟨f4,ep2⟩:=aC eF4 hp2
  have f34:=f3.trans f4
  have fAll:=f12.trans f34
  have rl:∀ {a:Addr},F4 a=some (.tup (lo.map V.int))->Rep F4 (.ref a) (gD lo):=fun h=>pI h l1
  have rh:∀ {a:Addr},F4 a=some (.tup (hi.map V.int))->Rep F4 (.ref a) (gD hi):=fun h=>pI h l2
  refine⟨_,_,.lst [gD lo,gD hi,gD lo,gD hi],U,.lst (f4 _ _ ep1) (by show 4<=100000;decide) (.cons (rl ((f2.trans f34) _ _ e1)) (.cons (rh (f34 _ _ e2)) (.cons (rl ((s4.trans fAll) _ _ e3)) (.cons (rh (fAll _ _ e4)) .nil)))),.lst ep2 (by show 4<=100000;decide) (.cons (rl ((s24.trans fAll) _ _ ela)) (.cons (rh ((s24.trans fAll) _ _ eha)) (.cons (rl ((s24.trans fAll) _ _ ela)) (.cons (rh ((s24.trans fAll) _ _ eha)) .nil)))),?_,fun Hz sz=>⟨true,U,?_⟩⟩
  ·unfold gD
   simp only[Dm.dep,vA,mV]
   decide
  show if (!true)=true then _ else _
  exact fC (Rc _ _ ⟨U,fAll.trans sz⟩)
 rintro σ H5 ⟨rfl,s5⟩
 have fua0:H ua=none:=s02.free fua
 have fda0:H da=none:=(s02.trans s3).free fda
 refine jD (fun σ H6=>σ=[oR b,oR f,oI c,oR la,oR ha,oR ua,oR da,none,none]/\aG H H6/\H6 da=some (.lst ds)/\H6 la=some (.tup (lo.map V.int))/\H6 ha=some (.tup (hi.map V.int))) ?_ ?_
 ·intro N Rc
  have eua5:=s5 _ _ (s4 _ _ eua)
  have ne:∀ {a xs},H5 a=some (HO.tup xs)->a≠ua:=fun y z=>by rw[z,eua5] at y;cases y
  refine⟨_,U,.inl ⟨U,_,sqL eua5⟩,ua,us,U,U,eua5,Rc _ _ ⟨U,aF (s04.trans s5) fua0 _,by rw[aR (Xd nud)];exact s5 _ _ eda,?_,?_⟩⟩
  ·have:=s5 _ _ (s24 _ _ ela)
   rw[aR (ne this)]
   exact this
  ·have:=s5 _ _ (s24 _ _ eha)
   rw[aR (ne this)]
   exact this
 clear s5 s04 s24 s3 s4 eua eda ela eha gus gds s02
 rintro σ H6 ⟨rfl,s6,eda,ela,eha⟩
 refine jD (fun σ H7=>σ=[oR b,oR f,oI c,oR la,oR ha,oR ua,oR da,none,none]/\aG H H7/\H7 la=some (.tup (lo.map V.int))/\H7 ha=some (.tup (hi.map V.int))) ?_ ?_
 ·intro N Rc
  refine⟨_,U,.inl ⟨U,_,sqL eda⟩,smN 0,fun p hp=>?_⟩
  generalize eF:upd H6 p _=F1
  obtain⟨gf,ep⟩:=aC eF hp
  have eda':=gf _ _ eda
  have ne:∀ {a xs},F1 a=some (HO.tup xs)->a≠da:=fun y z=>by rw[z,eda'] at y;cases y
  refine⟨da,_,_,U,U,eda',aB (by lia),Rc _ _ ⟨U,aF (s6.trans gf) fda0 _,?_,?_⟩⟩
  ·rw[aR (ne (gf _ _ ela))]
   exact gf _ _ ela
  ·rw[aR (ne (gf _ _ eha))]
   exact gf _ _ eha
 clear eda ela eha s6
 rintro σ H7 ⟨rfl,s7,ela,eha⟩
 refine jD (fun σ H8=>∃ (fo:Addr) (ws:Lo) (ks:Iy),σ=[oR b,oR f,oI c,oR la,oR ha,oR ua,oR da,oR fo,none]/\aG H7 H8/\H7 fo=none/\H8 fo=some (.lst ws)/\LF H7 H8 ws ks/\fO n fl bk ks) ?_ ?_
 ·intro N Rc
  exact⟨_,U,_,U,b,f,n,bk,fl,U,n6,hB.mono s7,lb,s7 _ _ hf,of,fun r ws ks H' s' fr er lf _ ka=>Rc _ _ ⟨r,ws,ks,U,s',fr,er,lf,ka⟩⟩
 rintro σ H8 ⟨fo,ws,ks,rfl,s8,ffo,efo,lf,ka⟩
 have s08:=s7.trans s8
 obtain⟨fw,fl6⟩:=ka.few low
 have p6:2 ^ n<=2 ^ 6:=Wx (by decide) n6
 have wl:ws.length=ks.length:=lf.length
 refine jD (fun σ H9=>σ=[oR b,oR f,oI c,oR la,oR ha,oR ua,oR da,oR fo,none]/\aG H8 H9) ?_ ?_
 ·intro N Rc
  refine⟨_,U,_,U,_,U,b,f,n,bk,fl,U,n1,n6,hB.mono s08,lb,s08 _ _ hf,of,fun r us' ks' H' s' er lf' ka'=>?_⟩
  rw[fO.uniq lb okb of low ka' ka] at lf'
  have lc:∀ c∈ks,c.length<=1000:=fun c hc=>by have:=fl6 c hc;lia
  have wl':us'.length=ks.length:=lf'.length
  refine⟨_,_,.lst (ks.map cD),U,.lst (s' _ _ efo) (by lia) ((lf.mono s').rep lc),.lst er (by lia) (lf'.rep lc),?_,fun Hz sz=>⟨true,U,?_⟩⟩
  ·have:=G9 ks
   show vA (ks.map cD)+1 < 3
   lia
  show if (!true)=true then _ else _
  exact fC (Rc _ _ ⟨U,s'.trans sz⟩)
 rintro σ H9 ⟨rfl,s9⟩
 have ffo0:H fo=none:=s7.free ffo
 refine jD (fun σ Ha=>σ=[oR b,oR f,oI c,oR la,oR ha,oR ua,oR da,oR fo,none]/\aG H Ha/\Ha la=some (.tup (lo.map V.int))/\Ha ha=some (.tup (hi.map V.int))) ?_ ?_
 ·intro N Rc
  refine⟨_,U,.inl ⟨U,_,sqL (s9 _ _ efo)⟩,smN 0,fun p hp=>?_⟩
  generalize eF:upd H9 p _=F1
  obtain⟨gf,ep⟩:=aC eF hp
  have efo':=gf _ _ (s9 _ _ efo)
  have ne:∀ {a xs},F1 a=some (HO.tup xs)->a≠fo:=fun y z=>by rw[z,efo'] at y;cases y
  have sg:=(s8.trans s9).trans gf
  refine⟨fo,_,_,U,U,efo',aB (by lia),Rc _ _ ⟨U,aF (s7.trans sg) ffo0 _,?_,?_⟩⟩
  ·rw[aR (ne (sg _ _ ela))]
   exact sg _ _ ela
  ·rw[aR (ne (sg _ _ eha))]
   exact sg _ _ eha
 clear ela eha s7 s8 s9 s08 efo lf
 rintro σ Ha ⟨rfl,sa,ela,eha⟩
 obtain⟨vs0,hb0,hbs,_⟩:=id hB
 have lv:=hbs.length
 refine jD (fun σ Hb=>∃ (cr:Addr) (cs:IP),σ=[oR b,oR f,oI c,oR la,oR ha,oR ua,oR da,oR fo,oR cr]/\aG Ha Hb/\Hb cr=some (.lst (cs.map vN))/\(∀ i∈cs,i < n)/\cs.length<=n) ?_ ?_
 ·intro N Rc
  refine⟨_,U,b,_,U,.inl (sqL (sa _ _ hb0)),_,U,by lia,by lia,fun D hD=>dH (lo:=0) (n:=((vs0.length:Int)).toNat) (fun j zs σ' Hx=>(∃ u,σ'=[u,oI c])/\aG Ha Hx/\Hx D=some (.lst zs)/\∃ cs:IP,zs=cs.map vN/\(∀ i∈cs,i < j)/\cs.length<=j)
   ⟨⟨_,U⟩,aA hD _,aa,[],U,by simp,Ua _⟩ (fun j zs σ' Hx _ h=>h.2.2.1) ?_ ?_⟩
  ·rintro j zs σ' Hx hj ⟨⟨u,rfl⟩,sx,eD,cs,rfl,cl,ll⟩
   refine⟨_,U,_,U,_,_,U,U,smN 1,fun p hp=>?_⟩
   generalize eF:upd Hx p _=F1
   obtain⟨gf,ep⟩:=aC eF hp
   refine⟨_,p,[2],U,sqL ep,by decide,by decide,fun r hr'=>?_⟩
   have sr:=aA hr' (.lst ((vB (jq (c+(0+(j:Int)))) [2]).map V.int))
   obtain⟨d0,k0,b0⟩:=bA (c:=jq (c+(0+(j:Int)))) (i:=0) (ps:=[2]) (by decide) U
   have k0':((vB (jq (c+(0+(j:Int)))) [2]).map V.int)[0]? = some (.int d0):=by rw[Uo,k0];rfl
   refine⟨r,_,_,_,U,U,sqL aa,cV (k:=0) k0',U,_,U,?_⟩
   have sg:=gf.trans sr
   by_cases z:d0=0
   ·rw[dcT (show V.int d0=V.int 0 by rw[z])]
    refine gF ⟨_,U,sg _ _ eD,aB (by rw[Tw];lia),⟨_,U⟩,aF (sx.trans sg) hD _,aa,cs++[j],?_,fun i hi=>?_,by rw[Uh];show cs.length+1<=_;lia⟩
    ·rw[T9,show (0:Int)+(j:Int)=(j:Int) by lia]
     rfl
    ·rcases List.mem_append.mp hi with y | y
     ·have:=cl i y
      lia
     ·rw[List.mem_singleton.mp y]
      lia
   ·rw[dcF (show ¬ V.int d0=V.int 0 from fun y=>z (by injection y))]
    exact fC ⟨⟨_,U⟩,sx.trans sg,sg _ _ eD,cs,U,fun i hi=>by have:=cl i hi;lia,by lia⟩
  ·rintro zs σ' Hx ⟨_,sx,eD,cs,rfl,cl,ll⟩
   rw[UL,lv,lb] at cl ll
   exact Rc _ _ ⟨D,cs,U,sx,eD,cl,ll⟩
 rintro σ Hb ⟨cr,cs,rfl,sb,ecr,cl,ll⟩
 have sab:=sa.trans sb
 refine jD (fun σ Hc=>σ=[oR b,oR f,oI c,oR la,oR ha,oR ua,oR da,oR fo,oR cr]/\aG Hb Hc) ?_ ?_
 ·intro N Rc
  refine⟨_,U,_,U,_,U,b,f,cr,n,bk,fl,cs,U,hB.mono sab,lb,sab _ _ hf,of,ecr,fun r1 z1 F1 f1 e1 mx=>?_⟩
  have sF:=sab.trans f1
  refine⟨_,U,_,U,_,U,_,U,b,f,la,cr,n,bk,fl,lo,cs,U,hB.mono sF,lb,sF _ _ hf,of,(sb.trans f1) _ _ ela,low,f1 _ _ ecr,cl,by lia,fun r2 z2 F2 f2 e2 mx2=>?_⟩
  rw[mx2.uniq (mx lo low)] at e2
  have l3:z1.length<=1000:=by rw[(mx lo low).1.1.1];lia
  refine⟨_,_,gD z1,U,pI (f2 _ _ e1) l3,pI e2 l3,?_,fun Hz sz=>⟨true,U,?_⟩⟩
  ·unfold gD
   simp only[Dm.dep,mV]
   decide
  show if (!true)=true then _ else _
  exact fC (Rc _ _ ⟨U,f1.trans (f2.trans sz)⟩)
 rintro σ Hc ⟨rfl,sc⟩
 have sac:=sab.trans sc
 refine⟨_,U,_,U,b,f,n,bk,fl,U,hB.mono sac,lb,n1,n6,sac _ _ hf,of,fun r x H' s' _ er hx=>?_⟩
 have bn:=Dv n1 n6 lb okb of high low (hx hi high)
 refine⟨smN 0,fun e0 he0=>?_⟩
 have sn:=aA he0 (.lst [])
 refine⟨r,e0,_,U,U,sqL (sn _ _ er),sqL aa,_,U,_,U,la,ha,lo,hi,U,U,sqT ((sb.trans (sc.trans (s'.trans sn))) _ _ ela),sqT ((sb.trans (sc.trans (s'.trans sn))) _ _ eha),?_⟩
 have e:(x.map vN).isEmpty=decide (lo=hi):=by
  rw[← bn]
  cases x <;> rfl
 refine⟨U,?_⟩
 show Q (V.bl (decide (V.bl (x.map vN).isEmpty=V.bl (decide (lo=hi))))) _
 rw[e,dcT U]
 exact q _ (sac.trans (s'.trans sn))
abbrev jd:Stmt:=top 50
theorem ig:aK ["_law_book_here","_law_cell_here","_law_drawn","_law_one"] XZ (aD jd):=gC
section
variable {n:Nat}{H H':Hp}
theorem cJ.erase:∀ {as:II} {ps:List Pl} (k:Nat),cJ n H as ps->cJ n H (as.eraseIdx k) (ps.eraseIdx k)
 | _,_,_,.nil=>.nil
 | _,_,0,.cons _ r=>r
 | _,_,k+1,.cons a r=>.cons a (cJ.erase k r)
theorem cJ.rev:∀ {as:II} {ps:List Pl},cJ n H as ps->cJ n H as.reverse ps.reverse
 | _,_,.nil=>.nil
 | _,_,.cons a r=>by
  rw[aad,aad]
  exact .snoc a (cJ.rev r)
theorem vY {α β:Type}(f:α->β):∀ (l:List α) (k:Nat),(l.map f).eraseIdx k=(l.eraseIdx k).map f
 | [],_=>rfl
 | _::_,0=>rfl
 | x::r,k+1=>congrArg (f x::·) (vY f r k)
def Kc (c:Addr)(H H':Hp):Prop:=∀ a o,a≠c->H a=some o->H' a=some o
theorem Kc.trans {c:Addr}{H2:Hp}(a:Kc c H H')(b:Kc c H' H2):Kc c H H2:=fun x o h z=>b x o h (a x o h z)
theorem kcS {c:Addr}(s:aG H H'):Kc c H H':=fun a o _ h=>s a o h
theorem kcU {c:Addr}{o:HO}:Kc c H (upd H c o):=fun a o' h z=>by rw[aR h];exact z
end
inductive xg (vs:Lo)(H:Hp)(Q:VK)(e3:XK):Prop where
 | mk (b:Addr) (c:Int) (n:Nat) (us:Lo) (bk:List (List Pl)) (_:vs=[.ref b,.int c]) (_:1<=n) (_:n<=6) (_:H b=some (.lst us)) (_:cH n H us bk) (_:bk.length=n) (_:(∀ u∈us,u≠.ref b)) (_:(∀ ps∈bk,ps.length<=3)) (_:∀ (H':Hp) (i:Nat) (l:Addr) (as:II) (ps:List Pl),us[i]? = some (.ref l)->Kc l H H'->H' l=some (.lst (as.map V.ref))->cJ n H' as ps->ps.length<=3->Q .non H')
theorem rG (F:Fun K "_law_changed" "_law_changed" jd f fd) (B:Bt mg) (VT:Df P w K mg base "_law_draws" 1 Ya (jk K)):dF P w K mg base CX0 2 f fd XZ xg:=by
 refine okA F ig fun H Q E hr h=>?_
 obtain⟨b,c,n,us,bk,rfl,n1,n6,hb,bs,lb,nb,few,q⟩:=h
 have lu:=bs.length
 refine⟨_,(aq (sT 2 ig.nd (aP VT hr (au (pv 1) (a1 (aX (au aj (au aj (a1 aj))))))))
 (aq (sT 3 ig.nd (aH cI (pxL K (pv 2) aj) (pln K B.len_ (pv 0))))
 (aO (iz (PW.pt (wu (aU dg (pxL K (pv 2) aj) aj) (pJ (aU (r:=RQ K) (Qt hr.gU) (pxL K (pv 0) (pv 3)) (aX cY))))) (aO (cu (jF Uz aaN aaM BP (pxL K (pv 0) (pv 3)) (a1 (aH cI (pxL K (pv 2) aj) (pln K B.len_ (pxL K (pv 0) (pv 3)))))))) (aO (iz (aU Cv (pxL K (pv 2) aj) aj) (aq (cu (jF Uz PySem.F.slot_list_insert PySem.F.type_list_insert Ia (pxL K (pv 0) (pv 3)) (au aj (a1 (bD (a1 (bD (au (aH bF aj (aH uU (pxL K (pv 2) aj) aj)) (a1 (bD (au bK (au (aH cI (aH bF (pv 3) aj) (pln K B.len_ (pv 0))) (a1 aj)))))))))))))
 (aO (iz (PW.pt (Mt (aU dg (pln K B.len_ (pv 0)) aj) (DY (aU tZ (pln K B.len_ (pxL K (pv 0) (pv 3))) aj)))) (aO (cu (jF Uz aaN aaM BP (pxL K (pv 0) (pv 3)) (a1 aj)))) cQ))) (aO (iz (aU dg (pxL K (pv 2) aj) aj) (aO (cu (Ez Uz PySem.F.slot_list_reverse PySem.F.type_list_reverse sX (pxL K (pv 0) (pv 3))))) cQ)))))))),?_⟩
 refine jY (fun σ H1=>∃ (dr:Addr) (d0 d1 d2:Int),σ=[oR b,oI c,oR dr,none]/\aG H H1/\H1 dr=some (.lst [.int d0,.int d1,.int d2])/\H dr=none/\(0<=d0/\d0 < 6)/\(0<=d2/\d2 < 4)) ?q0 ?t0
 case t0 =>
  intro N Rc
  refine⟨_,U,smN 3,fun p7 h7=>?_⟩
  generalize eHa:upd H p7 _=Ha
  obtain⟨ga,ea⟩:=aC eHa h7
  refine⟨c,p7,[6,60,4],U,sqL ea,by decide,by decide,fun p8 h8=>?_⟩
  obtain⟨d0,k0,b0⟩:=bA (c:=jq c) (i:=0) (ps:=[6,60,4]) (by decide) U
  obtain⟨d1,k1,b1⟩:=bA (c:=jq c) (i:=1) (ps:=[6,60,4]) (by decide) U
  obtain⟨d2,k2,b2⟩:=bA (c:=jq c) (i:=2) (ps:=[6,60,4]) (by decide) U
  cases k0
  cases k1
  cases k2
  exact Rc _ _ ⟨p8,_,_,_,U,ga.trans (aA h8 _),aa,ga.free h8,b0,b2⟩
 case q0 =>
 rintro σ H1 ⟨dr,d0,d1,d2,rfl,s1,edr,fdr,b0,b2⟩
 have hb1:=s1 _ _ hb
 have un:us.length=n:=by lia
 have bi:0<=d1 % (us.length:Int)/\d1 % (us.length:Int) < us.length:=⟨Vp _ (by lia),U7 _ (by lia)⟩
 obtain⟨i,ei⟩:∃ i:Nat,d1 % (us.length:Int)=(i:Int):=⟨(d1 % (us.length:Int)).toNat,by lia⟩
 have il:i < us.length:=by lia
 obtain⟨l,as,ps,hu,hps,hl,la,rp⟩:=bs.get (TJ il)
 have hui:us[i]? = some (.ref l):=by rw[TJ il,hu]
 have hat:=cV hui
 have lps:=few ps (Ud hps)
 have las:=rp.length
 have nlb:l≠b:=fun z=>nb (.ref l) (Ud hui) (by rw[z])
 have hl1:=s1 _ _ hl
 have rp1:=rp.aY fun a xs z=>s1 _ _ z
 have done:∀ {H2:Hp} {as':II} {ps':List Pl},Kc l H1 H2->H2 l=some (.lst (as'.map V.ref))->cJ n H2 as' ps'->ps'.length<=3->Q .non H2:=fun k e r l3=>q _ i l _ _ hui ((kcS s1).trans k) e r l3
 refine jY (fun σ H2=>σ=[oR b,oI c,oR dr,some (vN i)]/\H2=H1) ?q1 ?t1
 case t1 =>
  intro N Rc
  refine⟨_,U,dr,_,_,_,U,U,sqL edr,gt1,_,U,b,_,U,.inl (sqL hb1),_,_,U,U,by lia,?_⟩
  show N [some (.ref b),some (.int c),some (.ref dr),some (.int (d1 % (us.length:Int)))] H1
  rw[ei]
  exact Rc _ _ ⟨U,U⟩
 case q1 =>
 rintro σ H2 ⟨rfl,rfl⟩
 refine Eh (fun t Hx=>aG H2 Hx/\(t=true->0 < as.length)) (fun Q' hQ=>?tG) ?pop ?elif
 case tG =>
  refine⟨_,U,dr,_,_,_,U,U,sqL edr,gt0,U,_,U,?_⟩
  by_cases z:d0=0
  ·rw[dcT (show V.int d0=V.int 0 by rw[z])]
   refine gF ⟨_,U,_,U,b,_,_,_,U,U,sqL hb1,hat,smN 0,fun e0 he0=>?_⟩
   refine⟨l,e0,_,U,U,sqL (aA he0 _ _ _ hl1),sqL aa,_,U,hQ _ _ ⟨aA he0 _,fun t=>?_⟩⟩
   cases as with
   | nil=>cases t
   | cons _ _=>exact Nat.succ_pos _
  ·rw[dcF (show ¬ V.int d0=V.int 0 from fun y=>z (by injection y))]
   exact fC (hQ _ _ ⟨aG.refl _,fun t=>nomatch t⟩)
 case pop =>
  rintro Hx ⟨sx,ha⟩
  replace ha:=ha U
  have hlx:=sx _ _ hl1
  have lm:(as.map V.ref).length=as.length:=Tw _
  have bk':0<=d2 % (as.length:Int)/\d2 % (as.length:Int) < as.length:=⟨Vp _ (by lia),U7 _ (by lia)⟩
  obtain⟨k,ek⟩:∃ k:Nat,d2 % (as.length:Int)=(k:Int):=⟨(d2 % (as.length:Int)).toNat,by lia⟩
  have kl:k < as.length:=by lia
  refine⟨_,U,_,U,b,_,_,_,U,U,sqL (sx _ _ hb1),hat,.inl ⟨U,_,sqL hlx⟩,_,U,dr,_,_,_,U,U,sqL (sx _ _ edr),gt2,_,U,_,U,b,_,_,_,U,U,sqL (sx _ _ hb1),hat,l,_,U,.inl (sqL hlx),_,_,U,U,by lia,?_⟩
  show Ff (.ref l) [.int (d2 % ((as.map V.ref).length:Int))] Hx _
  rw[lm,ek]
  refine An hlx (by lia) (by lia) (by rw[Uo,TJ kl];rfl) ?_
  have tk:=bO (zs':=(as.map V.ref).eraseIdx k) hlx
  refine done ((kcS sx).trans kcU) (by rw[aa,vY]) (((rp1.aY fun a xs z=>sx _ _ z).aY tk).erase k) ?_
  rw[List.length_eraseIdx]
  split <;> lia
 case elif =>
 rintro Hx ⟨sx,_⟩
 have hlx:=sx _ _ hl1
 have hbx:=sx _ _ hb1
 have edx:=sx _ _ edr
 have rpx:=rp1.aY fun a xs z=>sx _ _ z
 refine⟨_,U,dr,_,_,_,U,U,sqL edx,gt0,_,_,U,U,_,U,?_⟩
 by_cases z:d0 < 3
 case neg =>
  rw[dcF z]
  refine fC ⟨_,U,dr,_,_,_,U,U,sqL edx,gt0,U,_,U,?_⟩
  by_cases z3:d0=3
  ·rw[dcT (show V.int d0=V.int 3 by rw[z3])]
   refine gF ⟨_,U,_,U,b,_,_,_,U,U,sqL hbx,hat,.inl ⟨U,_,sqL hlx⟩,l,_,U,U,hlx,?_⟩
   have tk:=bO (zs':=(as.map V.ref).reverse) hlx
   exact done ((kcS sx).trans kcU) (by rw[aa,List.map_reverse]) ((rpx.aY tk).rev) (by rw[List.length_reverse];exact lps)
  ·rw[dcF (show ¬ V.int d0=V.int 3 from fun y=>z3 (by injection y))]
   exact fC (done (kcS sx) hlx rpx lps)
 rw[dcT z]
 refine gF ?_
 have un:us.length=n:=by lia
 have bj:0<=((i:Int)+1) % (us.length:Int)/\((i:Int)+1) % (us.length:Int) < us.length:=⟨Vp _ (by lia),U7 _ (by lia)⟩
 obtain⟨j,ej⟩:∃ j:Nat,((i:Int)+1) % (us.length:Int)=(j:Int):=⟨(((i:Int)+1) % (us.length:Int)).toNat,by lia⟩
 refine jY (fun σ H3=>∃ (p:Addr) (pl:Pl),σ=[oR b,oI c,oR dr,some (vN i)]/\Kc l Hx H3/\H3 l=some (.lst ((p::as).map V.ref))/\Bl n H3 p pl/\cJ n H3 as ps) ?q2 ?t2
 case t2 =>
  intro N Rc
  refine⟨_,U,_,U,b,_,_,_,U,U,sqL hbx,hat,.inl ⟨U,_,sqL hlx⟩,_,U,dr,_,_,_,U,U,sqL edx,gt2,_,_,U,U,⟨by decide,by decide⟩,_,_,U,U,_,U,_,_,U,U,_,U,b,_,U,.inl (sqL hbx),_,_,U,U,by lia,smN 3,fun t1 h1=>?_⟩
  generalize eF1:upd Hx t1 _=F1
  obtain⟨g1,f1⟩:=aC eF1 h1
  refine⟨smN 2,fun t2 h2=>?_⟩
  generalize eF2:upd F1 t2 _=F2
  obtain⟨g2,f2⟩:=aC eF2 h2
  refine⟨smN 1,fun t3 h3=>?_⟩
  generalize eF3:upd F2 t3 _=F3
  obtain⟨g3,f3⟩:=aC eF3 h3
  have s3:=g1.trans (g2.trans g3)
  have f1':F1 t1=some (.tup [.str "gives",vN j,.int 1]):=by
   rw[f1]
   show some (HO.tup [.str "gives",.int (((i:Int)+1) % (us.length:Int)),.int 1])=_
   rw[ej]
   rfl
  have hp:Bl n F3 t3 [(1+d2 / 2,.gives j 1)]:=⟨⟨by simp,by show 1<=9;decide,by simp,fun x hx=>by rw[List.mem_singleton.mp hx];exact⟨by show 1<=1+d2 / 2;lia,by show 1+d2 / 2<=9;lia,by show 1<=4;decide⟩⟩,_,f3,.cons (g3 _ _ f2) (.gives ((g2.trans g3) _ _ f1') (by lia) (by decide) (by decide)) .nil⟩
  have hl3:=s3 _ _ hlx
  have tk:=bO (zs':=(t3::as).map V.ref) hl3
  refine⟨l,_,0,0,_,U,U,U,hl3,Uw _,aB (by rw[Tw];lia),?_⟩
  exact Rc _ _ ⟨t3,_,U,(kcS s3).trans kcU,aa,hp.aY tk,(rpx.aY fun a xs z=>s3 _ _ z).aY tk⟩
 case q2 =>
 rintro σ H3 ⟨p,pl,rfl,kc,h3,hp,hps⟩
 have k13:=(kcS sx).trans kc
 have hb3:H3 b=some (.lst us):=kc _ _ (Xd nlb) hbx
 have lm:((p::as).map V.ref).length=as.length+1:=Tw _
 refine Eh (fun t Hy=>Hy=H3/\(t=false->as.length+1<=3)) (fun Q' hQ=>?tH) ?pop0 ?no
 case tH =>
  refine⟨_,U,b,_,U,.inl (sqL hb3),U,_,U,?_⟩
  by_cases y:(us.length:Int)=1
  ·rw[dcT (show V.int (us.length:Int)=V.int 1 by rw[y])]
   exact gF (hQ _ _ ⟨U,fun t=>nomatch t⟩)
  ·rw[dcF (show ¬ V.int (us.length:Int)=V.int 1 from fun w=>y (by injection w))]
   refine fC ⟨_,U,_,U,b,_,_,_,U,U,sqL hb3,hat,l,_,U,.inl (sqL h3),_,_,U,U,_,U,hQ _ _ ⟨U,fun t=>?_⟩⟩
   have:=of_decide_eq_false t
   rw[lm] at this
   lia
 case pop0 =>
  rintro Hy ⟨rfl,_⟩
  refine⟨_,U,_,U,b,_,_,_,U,U,sqL hb3,hat,.inl ⟨U,_,sqL h3⟩,?_⟩
  refine An (k:=0) h3 (by lia) (by lia) U ?_
  have tk:=bO (zs':=as.map V.ref) h3
  exact done (k13.trans kcU) aa (hps.aY tk) lps
 case no =>
  rintro Hy ⟨rfl,l3⟩
  exact done k13 h3 (.cons hp hps) (by have:=l3 U;rw[Um];lia)
structure Bo where
 b:Addr
 f:Addr
 us:Lo
 n:Nat
 bk:List (List Pl)
 fl:IN
structure Bp (H:Hp)(r:Addr)(x:Bo):Prop where
 hr:H r=some (.lst [.ref x.b,.ref x.f])
 hb:H x.b=some (.lst x.us)
 bs:cH x.n H x.us x.bk
 lb:x.bk.length=x.n
 n1:1<=x.n
 n6:x.n<=6
 hf:H x.f=some (.tup (x.fl.map V.int))
 of:okG x.n x.fl
 few:∀ ps∈x.bk,ps.length<=3
def LL (p:Addr × Bo):Lo:=.ref p.1::.ref p.2.b::p.2.us
structure Ws (H:Hp)(R k:Addr)(cs:Lo)(P:List (Addr × Bo)):Prop where
 hR:H R=some (.lst (P.map fun p=>V.ref p.1))
 hk:H k=some (.lst cs)
 al:∀ (j:Nat) (p:Addr × Bo),P[j]? = some p->Bp H p.1 p.2
 nd:(V.ref R::V.ref k::P.flatMap LL).Nodup
section
variable {H H':Hp}{R k l r:Addr}{cs zs:Lo}{P:List (Addr × Bo)}{x:Bo}{p:Addr × Bo}{j:Nat}
theorem cH.kc {n:Nat}(hl:H l=some (.lst zs))(kc:Kc l H H'):∀ {us:Lo} {bs:List (List Pl)},cH n H us bs->.ref l ∉ us->cH n H' us bs
 | _,_,.nil,_=>.nil
 | _,_,.cons h a p r,hn=>.cons (kc _ _ (fun z=>hn (by rw[z];exact TY)) h) a (p.aY fun a xs q=>kc _ _ (fun z=>by rw[z,hl] at q;cases q) q) (cH.kc hl kc r fun z=>hn (TX _ z))
theorem cH.put {n:Nat}(hl:H l=some (.lst zs))(kc:Kc l H H'){as:II}{ps:List Pl}(e:H' l=some (.lst (as.map V.ref)))(la:as.length<=100)(rp:cJ n H' as ps):∀ {us:Lo} {bs:List (List Pl)} {i:Nat},cH n H us bs->us.Nodup->us[i]? = some (.ref l)->cH n H' us (bs.set i ps)
 | _,_,_,.nil,_,h=>by simp at h
 | _,_,0,.cons _ _ _ r,nd,h=>by
  cases h
  rw[Vg] at nd
  exact .cons e la rp (r.kc hl kc nd.1)
 | _,_,i+1,.cons h0 a p r,nd,h=>by
  rw[Vg] at nd
  exact .cons (kc _ _ (fun z=>nd.1 (by rw[z];exact Ud (show _=some (V.ref l) from h))) h0) a (p.aY fun a xs q=>kc _ _ (fun z=>by rw[z,hl] at q;cases q) q) (cH.put hl kc e la rp r nd.2 h)
theorem Bp.kc (X:Bp H r x)(hl:H l=some (.lst zs))(kc:Kc l H H')(n:V.ref l ∉ LL (r,x)):Bp H' r x :=
 ⟨kc _ _ (fun z=>n (by rw[← z];exact TY)) X.hr,kc _ _ (fun z=>n (by rw[← z];exact TX _ TY)) X.hb,X.bs.kc hl kc (fun z=>n (TX _ (TX _ z))),X.lb,X.n1,X.n6,kc _ _ (fun z=>by have:=X.hf;rw[← z] at hl;rw[this] at hl;cases hl) X.hf,X.of,X.few⟩
theorem Bp.same (s:aG H H')(X:Bp H r x):Bp H' r x:=⟨s _ _ X.hr,s _ _ X.hb,X.bs.mono s,X.lb,X.n1,X.n6,s _ _ X.hf,X.of,X.few⟩
theorem Bp.live (X:Bp H r x):∀ v∈LL (r,x),∃ c ys,v = .ref c/\H c=some (.lst ys):=fun v hv=>by
 rcases List.mem_cons.mp hv with z | hv
 ·exact⟨_,_,z,X.hr⟩
 ·rcases List.mem_cons.mp hv with z | hv
  ·exact⟨_,_,z,X.hb⟩
  ·exact X.bs.isl v hv
theorem EY {α:Type}{f:α->Lo}:∀ {P:List α},(P.flatMap f).Nodup->∀ {i j:Nat} {p q:α} {v:V},P[i]? = some p->P[j]? = some q->v∈f p->v∈f q->i=j
 | [],_,i,_,_,_,_,h,_,_,_=>by simp at h
 | a::P,nd,i,j,p,q,v,h1,h2,m1,m2=>by
  rw[Xz,Zb] at nd
  cases i with
  | zero =>
   cases j with
   | zero=>rfl
   | succ j =>
    cases h1
    exact absurd U (nd.2.2 v m1 v (List.mem_flatMap.mpr ⟨q,Ud (show P[j]? = some q from h2),m2⟩))
  | succ i =>
   cases j with
   | zero =>
    cases h2
    exact absurd U (nd.2.2 v m2 v (List.mem_flatMap.mpr ⟨p,Ud (show P[i]? = some p from h1),m1⟩))
   | succ j=>exact congrArg (· + 1) (EY nd.2.1 (show P[i]? = some p from h1) (show P[j]? = some q from h2) m1 m2)
theorem Ba {α:Type}{f:α->Lo}:∀ {P:List α},(P.flatMap f).Nodup->∀ {p:α},p∈P->(f p).Nodup
 | a::P,nd,p,h=>by
  rw[Xz,Zb] at nd
  rcases List.mem_cons.mp h with rfl | h
  ·exact nd.1
  ·exact Ba nd.2.1 h
theorem JS {P:List (Addr × Bo)}{p':Addr × Bo}(h:P[j]? = some p)(e:LL p'=LL p)(e1:p'.1=p.1):(P.set j p').flatMap LL=P.flatMap LL/\(P.set j p').map (fun p=>V.ref p.1)=P.map fun p=>V.ref p.1:=by
 induction P generalizing j with
 | nil=>simp at h
 | cons a P ih =>
  cases j with
  | zero =>
   cases h
   constructor
   ·show LL p'++_=LL p++_
    rw[e]
   ·show V.ref p'.1::_=V.ref p.1::_
    rw[e1]
  | succ j =>
   obtain⟨h1,h2⟩:=ih (j:=j) h
   exact⟨by show LL a++(P.set j p').flatMap LL=LL a++P.flatMap LL;rw[h1],by show V.ref a.1::(P.set j p').map _=V.ref a.1::P.map _;rw[h2]⟩
theorem Ws.same (s:aG H H')(W:Ws H R k cs P):Ws H' R k cs P:=⟨s _ _ W.hR,s _ _ W.hk,fun j p h=>(W.al j p h).same s,W.nd⟩
theorem Ws.write {p':Addr × Bo}(W:Ws H R k cs P)(hj:P[j]? = some p)(hl:H l=some (.lst zs))(kc:Kc l H H')(m:V.ref l∈LL p)(e:LL p'=LL p)(e1:p'.1=p.1)(B':Bp H' p'.1 p'.2):Ws H' R k cs (P.set j p'):=by
 obtain⟨f1,f2⟩:=JS hj e e1
 have nd:=W.nd
 rw[Vg,Vg] at nd
 have mf:V.ref l∈P.flatMap LL:=List.mem_flatMap.mpr ⟨p,Ud hj,m⟩
 refine⟨?_,kc _ _ (fun z=>nd.2.1 (by rw[z];exact mf)) W.hk,fun i q hq=>?_,by rw[f1];exact W.nd⟩
 ·rw[f2]
  exact kc _ _ (fun z=>nd.1 (by rw[z];exact TX _ mf)) W.hR
 ·have jl:=(geS hj).1
  by_cases z:j=i
  ·rw[← z,Yc jl] at hq
   cases hq
   exact B'
  ·rw[Zu z] at hq
   exact (W.al i q hq).kc hl kc fun y=>z (EY nd.2.2 hj hq m y)
theorem Ws.live (W:Ws H R k cs P):∀ v∈V.ref R::V.ref k::P.flatMap LL,∃ c ys,v = .ref c/\H c=some (.lst ys):=fun v hv=>by
 rcases List.mem_cons.mp hv with z | hv
 ·exact⟨_,_,z,W.hR⟩
 ·rcases List.mem_cons.mp hv with z | hv
  ·exact⟨_,_,z,W.hk⟩
  ·obtain⟨p,hp,hv⟩:=List.mem_flatMap.mp hv
   obtain⟨i,hi⟩:=List.getElem?_of_mem hp
   exact (W.al i p hi).live v hv
theorem Ws.not (W:Ws H R k cs P){c:Addr}(h:H c=none):V.ref c ∉ V.ref R::V.ref k::P.flatMap LL:=fun z=>by
 obtain⟨c',ys,e,h'⟩:=W.live _ z
 cases e
 rw[h] at h'
 cases h'
theorem Ws.swap {c:Addr}{ds:Lo}(W:Ws H R k cs P)(s:aG H H')(h:H c=none)(e:H' c=some (.lst ds)):Ws H' R c ds P:=by
 have n:=W.not h
 have nd:=W.nd
 rw[Vg,Vg] at nd
 refine⟨s _ _ W.hR,e,fun j p hj=>(W.al j p hj).same s,?_⟩
 rw[Vg,Vg]
 refine⟨fun z=>?_,fun z=>n (TX _ (TX _ z)),nd.2.2⟩
 rcases List.mem_cons.mp z with y | y
 ·exact n (by rw[y];exact TY)
 ·exact nd.1 (TX _ y)
theorem Ws.more (W:Ws H R k cs P)(s:aG H H')(fr:∀ v∈LL (r,x),∃ c,v = .ref c/\H c=none)(nd':(LL (r,x)).Nodup)(X:Bp H' r x):Ws (upd H' R (.lst ((P++[(r,x)]).map fun p=>V.ref p.1))) R k cs (P++[(r,x)]):=by
 have dj:∀ v∈LL (r,x),v ∉ V.ref R::V.ref k::P.flatMap LL:=fun v hv=>by
  obtain⟨c,rfl,h⟩:=fr v hv
  exact W.not h
 have nd:=W.nd
 rw[Vg,Vg] at nd
 have hR':=s _ _ W.hR
 have kR:R≠k:=fun z=>nd.1 (by rw[z];exact TY)
 refine⟨aa,by rw[aR (Xd kR)];exact s _ _ W.hk,fun j p hj=>?_,?_⟩
 ·rcases V0 j P.length with z | z
  ·rw[Wh z] at hj
   exact ((W.al j p hj).same s).kc hR' kcU fun y=>nd.1 (TX _ (List.mem_flatMap.mpr ⟨p,Ud hj,y⟩))
  ·rw[Vl z] at hj
   have:p=(r,x):=by
    have:=Ud hj
    simpa using this
   rw[this]
   exact X.kc hR' kcU fun y=>dj _ y TY
 ·rw[ZJ,List.flatMap_singleton]
  rw[show V.ref R::V.ref k::(P.flatMap LL++LL (r,x))=(V.ref R::V.ref k::P.flatMap LL)++LL (r,x) from U,Zb]
  exact⟨W.nd,nd',fun u hu v hv z=>dj v hv (z▸hu)⟩
theorem Bp.put {i:Nat}{as:II}{ps:List Pl}(X:Bp H r x)(nd:(LL (r,x)).Nodup)(hu:x.us[i]? = some (.ref l))(kc:Kc l H H')(e:H' l=some (.lst (as.map V.ref)))(rp:cJ x.n H' as ps)(l3:ps.length<=3):Bp H' r { x with bk:=x.bk.set i ps }:=by
 obtain⟨l',ys,el,hl⟩:=X.bs.isl _ (Ud hu)
 cases el
 unfold LL at nd
 rw[Vg,Vg] at nd
 have ml:=Ud hu
 have la:=rp.length
 refine⟨kc _ _ (fun z=>nd.1 (by rw[z];exact TX _ ml)) X.hr,kc _ _ (fun z=>nd.2.1 (by rw[z];exact ml)) X.hb,X.bs.put hl kc e (by lia) rp nd.2.2 hu,by show (x.bk.set i ps).length=_;rw[Xn];exact X.lb,X.n1,X.n6,kc _ _ (fun z=>by have:=X.hf;rw[z,hl] at this;cases this) X.hf,X.of,fun qs hq=>?_⟩
 rcases Z4 hq with z | z
 ·exact X.few qs z
 ·rw[z]
  exact l3
theorem Bp.floor {g:Addr}{fl:IN}(X:Bp H r x)(nd:(LL (r,x)).Nodup)(hg:H g=some (.tup (fl.map V.int)))(og:okG x.n fl):Bp (upd H r (.lst [.ref x.b,.ref g])) r { x with f:=g,fl:=fl }:=by
 unfold LL at nd
 rw[Vg,Vg] at nd
 exact⟨aa,kcU _ _ (fun z=>nd.1 (by rw[← z];exact TY)) X.hb,X.bs.kc X.hr kcU (fun z=>nd.1 (TX _ z)),X.lb,X.n1,X.n6,kcU _ _ (fun z=>by have z:g=r:=z;rw[z,X.hr] at hg;cases hg) hg,og,X.few⟩
theorem Ws.at (W:Ws H R k cs P)(hj:P[j]? = some p):Bp H p.1 p.2/\(LL p).Nodup/\atI (P.map fun p=>V.ref p.1) (j:Int)=some (.ref p.1):=by
 have nd:=W.nd
 rw[Vg,Vg] at nd
 exact⟨W.al j p hj,Ba nd.2.2 (Ud hj),cV (by rw[Uo,hj];rfl)⟩
end
abbrev M4:Stmt:=top 52
theorem iV:aK ["_law_script","_law_rows","_law_start","_law_n","_law_most","_law_book_here","_law_floor","_law_cell_here","_law_drawn","_law_at","_law_one"] ZN (aD M4):=gC
inductive Kf (K:UT)(vs:Lo)(H:Hp)(Q:VK)(e3:XK):Prop where
 | mk (a:Addr) (ns:IN) (_:vs=[.ref a]) (_:SqL K H a (ns.map V.int)) (_:ns.length<=63) (_:∀ H',Q (.bl true) H')
theorem PL (F:Fun K "law" "law" M4 f fd) (B:Bt mg) (VT:Df P w K mg base "_law_draws" 1 Ya (jk K)) (WH:Df P w K mg base "_law_scene_at" 9 YE (wY K)) (VO:Df P w K mg base "_law_changed" 2 XZ xg) (VC:Df P w K mg base "_law_asked" 16 XU Lq):dF P w K mg base CX0 17 f fd ZN (Kf K):=by
 refine okA F iV fun H Q E hr h=>?_
 obtain⟨a,ns0,rfl,hS,lN,q⟩:=h
 refine⟨_,(aq (sT 0 iV.nd (eX (r:=QX K) yS (pv 0) jo (gm aj)))
 (aq (sT 1 iV.nd (aX cY))
 (aq (cW U3 U (fX (bD (au aj (au aj (a1 aj))))) (pgN 2 iV.nd) (aq (Fq (aP WH hr (v2 0 2)) (du (K:=K) 4 U U (aQ (pgN 3 iV.nd) (aQ (pgN 4 iV.nd) (aQ (pgN 5 iV.nd) (aQ (pgN 6 iV.nd) dw))))))
 (aO (cu (jF Uz Vb Va bI (pv 1) (a1 (aX (v2 5 6))))))))
 (aq (cW U3 U (cB (aH lX (eX (r:=QX K) yS (pv 0) (gm aj) jo) (aX (au aj (au aj (a1 aj)))))) (pgN 7 iV.nd) (aq (sT 8 iV.nd (aP VT hr (au (aH bF (pv 7) aj) (a1 (aX (au aj (au aj (au aj (a1 aj)))))))))
 (aq (sT 9 iV.nd (pxL K (pv 8) aj))
 (aq (cu (aP VO hr (au (pxL K (pxL K (pv 1) (pv 9)) aj) (v1 7))))
 (aq (iz (aU dg (pxL K (pv 8) aj) aj) (aq (sT 6 iV.nd (pxL K (pxL K (pv 1) (pv 9)) aj))
 (aq (sT 10 iV.nd (aH cI (pxL K (pv 8) aj) (pln K B.len_ (pv 6))))
 (aO (Fq (aH (r:=iB K) jj (aH (r:=iB K) jj (eX (r:=Br K) qN (pv 6) jo (gm (pv 10))) (bD (a1 (aH oV aj (aH cI (pxT K (pv 6) (pv 10)) aj))))) (eX (r:=Br K) qN (pv 6) (gm (aH bF (pv 10) aj)) jo)) (P0 (pxL K (pv 1) (pv 9)) aj set_list))))) cQ)
 (aO (ifR (rY (iQ (aP VC hr (au (pxL K (pxL K (pv 1) (pxL K (pv 8) aj)) aj) (au (pxL K (pxL K (pv 1) (pxL K (pv 8) aj)) aj) (v1 7)))))) mF)))))))
 (sR mF))))),?_⟩
 refine jD (fun σ H1=>∃ (p1:Addr) (ss:IN),σ=[oR p1,none,none,none,none,none,none,none,none,none,none]/\H1 p1=some (.lst (ss.map V.int))/\ss.length<=63) ?_ ?_
 ·intro N Rc
  refine⟨_,U,_,U,a,_,U,hS,fun p1 h1=>?_⟩
  obtain⟨ss,es,ls⟩:=uo ns0 none (some 63)
  rw[es]
  exact Rc _ _ ⟨p1,ss,U,aa,by lia⟩
 rintro σ H1 ⟨p1,ss,rfl,e1,ls⟩
 refine jD (fun σ H2=>∃ R:Addr,σ=[oR p1,oR R,none,none,none,none,none,none,none,none,none]/\Ws H2 R p1 (ss.map V.int) []) ?_ ?_
 ·intro N Rc
  refine⟨smN 0,fun R hR=>Rc _ _ ⟨R,U,aa,aA hR _ _ _ e1,fun j p h=>by simp at h,?_⟩⟩
  have:R≠p1:=fun z=>by rw[z,e1] at hR;cases hR
  simp [this]
 rintro σ H2 ⟨R,rfl,W2⟩
 refine jD (fun σ H3=>∃ (u2 u3 u4 u5 u6:Lc) (P:List (Addr × Bo)),σ=[oR p1,oR R,u2,u3,u4,u5,u6,none,none,none,none]/\P.length=3/\Ws H3 R p1 (ss.map V.int) P) ?_ ?_
 ·intro N Rc
  refine⟨smN 3,fun tp htp=>?_⟩
  generalize eF:upd H2 tp _=F1
  obtain⟨gf,ef⟩:=aC eF htp
  refine⟨tp,U,⟨_,sqT ef⟩,qQ (K:=K) (a:=tp) (xs:=[.int 0,.int 9,.int 18]) (fun i σ Hx=>∃ (u2 u3 u4 u5 u6:Lc) (P:List (Addr × Bo)),σ=[oR p1,oR R,u2,u3,u4,u5,u6,none,none,none,none]/\P.length=i/\Ws Hx R p1 (ss.map V.int) P/\Hx tp=some (.tup [.int 0,.int 9,.int 18])) ⟨_,_,_,_,_,[],U,U,W2.same gf,ef⟩ (fun i σ Hx _ h=>by obtain⟨_,_,_,_,_,_,_,_,_,z⟩:=h;exact sqT z) ?_ ?_⟩
  ·rintro i y σ Hx hx ⟨u2,u3,u4,u5,u6,P,rfl,lP,W,et⟩
   obtain⟨st,rfl,il⟩:∃ st:Int,y = .int st/\i < 3:=by
    have:=(geS hx).1
    have il:i < 3:=this
    have m:=Ud hx
    simp only[VG,V3,or_false] at m
    rcases m with z | z | z
    ·exact⟨_,z,il⟩
    ·exact⟨_,z,il⟩
    ·exact⟨_,z,il⟩
   refine gN ?_
   refine jD (fun σ Hy=>∃ (n mo:Nat) (b f:Addr) (us:Lo) (bk:List (List Pl)) (fl:IN),σ=[oR p1,oR R,oI st,some (.int (n:Int)),some (.int (mo:Int)),oR b,oR f,none,none,none,none]/\aG Hx Hy/\1<=n/\n<=6/\ScB n Hx Hy b us bk/\Hy f=some (.tup (fl.map V.int))/\okG n fl) ?_ ?_
   ·intro N' Rc'
    exact⟨_,U,_,U,p1,ss,st,U,sqL W.hk,ls,fun r n mo b f us bk fl H4 s4 er n1 n6 sb hf of=>⟨r,_,U,sqT er,U,_,_,U,_,_,U,_,_,U,_,_,U,U,Rc' _ _ ⟨n,mo,b,f,us,bk,fl,U,s4,n1,n6,sb,hf,of⟩⟩⟩
   rintro σ Hy ⟨n,mo,b,f,us,bk,fl,rfl,sy,n1,n6,sb,hf,of⟩
   have hR:=sy _ _ W.hR
   refine⟨_,U,.inl ⟨U,_,sqL hR⟩,_,U,_,U,smN 2,fun r hr'=>?_⟩
   generalize eG:upd Hy r _=G1
   obtain⟨gg,eg⟩:=aC eG hr'
   have s2:=sy.trans gg
   have ndL:(LL (r,⟨b,f,us,n,bk,fl⟩)).Nodup:=by
    unfold LL
    rw[Vg,Vg]
    refine⟨fun z=>?_,fun z=>sb.nb _ z U,sb.nd⟩
    rcases List.mem_cons.mp z with y | y
    ·have y:r=b:=by injection y
     rw[y,sb.hb] at hr'
     cases hr'
    ·obtain⟨c,ys,e,h'⟩:=sb.bs.isl _ y
     have e:r=c:=by injection e
     rw[e,h'] at hr'
     cases hr'
   have frL:∀ v∈LL (r,⟨b,f,us,n,bk,fl⟩),∃ c,v = .ref c/\Hx c=none:=fun v hv=>by
    rcases List.mem_cons.mp hv with z | hv
    ·exact⟨r,z,sy.free hr'⟩
    ·rcases List.mem_cons.mp hv with z | hv
     ·exact⟨b,z,sb.fb⟩
     ·exact sb.fr v hv
   have Wm:=W.more (x:=⟨b,f,us,n,bk,fl⟩) s2 frL ndL ⟨eg,gg _ _ sb.hb,sb.bs.mono gg,sb.lb,n1,n6,gg _ _ hf,of,fun ps hp=>Vd (sb.few ps hp) (by decide)⟩
   refine⟨R,_,_,U,U,gg _ _ hR,aB (by rw[Tw];lia),_,_,_,_,_,P++[(r,⟨b,f,us,n,bk,fl⟩)],U,by rw[Uh,lP];rfl,?_,?_⟩
   ·rw[T9] at Wm
    exact Wm
   ·rw[aR (fun z=>by have:=gg _ _ hR;rw[← z,s2 _ _ et] at this;cases this)]
    exact s2 _ _ et
  ·rintro σ Hx ⟨u2,u3,u4,u5,u6,P,rfl,lP,W,_⟩
   exact Rc _ _ ⟨u2,u3,u4,u5,u6,P,U,lP,W⟩
 clear W2
 rintro σ H3 ⟨u2,u3,u4,u5,u6,P,rfl,lP,W⟩
 refine jY (fun _ _=>True) (fun _ _ _=>q _) fun N Rc=>?_
 refine⟨_,U,_,U,p1,_,U,sqL W.hk,fun p4 h4=>?_⟩
 obtain⟨ks,ek,lk⟩:=uo ss (some 27) none
 rw[ek]
 generalize eH7:upd H3 p4 _=H7
 obtain⟨g7,e7⟩:=aC eH7 h4
 refine⟨smN 3,fun p5 h5=>?_⟩
 generalize eH8:upd H7 p5 _=H8
 obtain⟨g8,e8⟩:=aC eH8 h5
 refine⟨p4,p5,_,_,U,U,g8 _ _ e7,e8,small (by rw[Tw];show ks.length+3<=1000;lia),fun p6 h6=>?_⟩
 have ec:ks.map V.int++[V.int 1,V.int 2,V.int 3]=(ks++[1,2,3]).map V.int:=by rw[T9];rfl
 rw[ec]
 generalize eH9:upd H8 p6 _=H9
 obtain⟨g9,e9⟩:=aC eH9 h6
 have W9:=(W.same (g7.trans g8)).swap g9 h6 e9
 clear W
 refine⟨p6,U,⟨_,sqL e9⟩,jb (K:=K) (a:=p6) (xs:=(ks++[1,2,3]).map V.int) (fun i σ Hx=>∃ (u2 u3 u4 u5 u6 u7 u8 u9 u10:Lc) (P:List (Addr × Bo)),σ=[oR p1,oR R,u2,u3,u4,u5,u6,u7,u8,u9,u10]/\P.length=3/\Ws Hx R p6 ((ks++[1,2,3]).map V.int) P)
  ⟨_,_,_,_,_,_,_,_,_,P,U,lP,W9⟩ (fun i σ Hx _ h=>by obtain⟨_,_,_,_,_,_,_,_,_,_,_,_,z⟩:=h;exact sqL z.hk) ?_ (fun _ _ _=>Rc _ _ trivial)⟩
 clear W9 Rc lP
 rintro i y σ Hx hx ⟨u2,u3,u4,u5,u6,u7,u8,u9,u10,P,rfl,lP,W⟩
 obtain⟨cv,hcv,rfl⟩:=int_at hx
 refine gN ?_
 refine jD (fun σ Ha=>∃ (dr:Addr) (d0 d1:Nat) (d2 d3:Int),σ=[oR p1,oR R,u2,u3,u4,u5,u6,oI cv,oR dr,u9,u10]/\aG Hx Ha/\Hx dr=none/\Ha dr=some (.lst [vN d0,vN d1,.int d2,.int d3])/\d0 < 3/\d1 < 3) ?_ ?_
 ·intro N Rc
  refine⟨_,U,_,_,U,U,smN 4,fun p7 h7=>?_⟩
  generalize eHa:upd Hx p7 _=Ha
  obtain⟨ga,ea⟩:=aC eHa h7
  refine⟨_,p7,[3,3,4,60],U,sqL ea,by decide,by decide,fun p8 h8=>?_⟩
  obtain⟨d0,k0,b0⟩:=bA (c:=jq (cv+3)) (i:=0) (ps:=[3,3,4,60]) (by decide) U
  obtain⟨d1,k1,b1⟩:=bA (c:=jq (cv+3)) (i:=1) (ps:=[3,3,4,60]) (by decide) U
  obtain⟨d2,k2,b2⟩:=bA (c:=jq (cv+3)) (i:=2) (ps:=[3,3,4,60]) (by decide) U
  obtain⟨d3,k3,b3⟩:=bA (c:=jq (cv+3)) (i:=3) (ps:=[3,3,4,60]) (by decide) U
  cases k0
  cases k1
  cases k2
  cases k3
  refine Rc _ _ ⟨p8,(jq (cv+3) % 3).toNat,(jq (cv+3) / 3 % 3).toNat,jq (cv+3) / 3 / 3 % 4,jq (cv+3) / 3 / 3 / 4 % 60,U,ga.trans (aA h8 _),ga.free h8,?_,by lia,by lia⟩
  rw[aa]
  unfold vN
  rw[aa2 b0.1,aa2 b1.1]
  rfl
 rintro σ Ha ⟨dr,d0,d1,d2,d3,rfl,sa,fdr,edr,h0,h1⟩
 have ndr:∀ {l:Addr} {p:Addr × Bo},p∈P->V.ref l∈LL p->dr≠l:=fun hp hl z=>W.not fdr (by rw[z];exact TX _ (TX _ (List.mem_flatMap.mpr ⟨_,hp,hl⟩)))
 replace W:=W.same sa
 refine jD (fun σ Hb=>σ=[oR p1,oR R,u2,u3,u4,u5,u6,oI cv,oR dr,some (vN d0),u10]/\Hb=Ha) ?_ ?_
 ·intro N Rc
  exact⟨_,U,dr,_,_,_,U,U,sqL edr,gt0,Rc _ _ ⟨U,U⟩⟩
 rintro σ Hb ⟨rfl,rfl⟩
 refine jD (fun σ Hc=>∃ P:List (Addr × Bo),σ=[oR p1,oR R,u2,u3,u4,u5,u6,oI cv,oR dr,some (vN d0),u10]/\P.length=3/\Ws Hc R p6 ((ks++[1,2,3]).map V.int) P/\Hc dr=some (.lst [vN d0,vN d1,.int d2,.int d3])/\∀ {l:Addr} {p:Addr × Bo},p∈P->V.ref l∈LL p->dr≠l) ?_ ?_
 ·intro N Rc
  obtain⟨p,hp⟩:∃ p,P[d0]? = some p:=⟨_,TJ (by lia)⟩
  obtain⟨X,nd,hat⟩:=W.at hp
  have nd':=nd
  unfold LL at nd'
  rw[Vg,Vg] at nd'
  refine⟨_,U,_,U,R,_,_,_,U,U,sqL W.hR,hat,p.1,_,_,_,U,U,sqL X.hr,gt0,_,U,p.2.b,cv,p.2.n,p.2.us,p.2.bk,U,X.n1,X.n6,X.hb,X.bs,X.lb,fun u hu z=>nd'.2.1 (by rw[← z];exact hu),X.few,fun H' j l as ps hu kc el rp l3=>?_⟩
  obtain⟨l',ys,e',hl⟩:=X.bs.isl _ (Ud hu)
  cases e'
  have ml:V.ref l∈LL p:=TX _ (TX _ (Ud hu))
  have mp:=Ud hp
  refine Rc _ _ ⟨P.set d0 (p.1,{ p.2 with bk:=p.2.bk.set j ps }),U,by rw[Xn];exact lP,W.write hp hl kc ml U U (X.put nd hu kc el rp l3),kc _ _ (ndr mp ml) edr,fun {l2 p2} hp2 hl2=>?_⟩
  rcases Z4 hp2 with z | z
  ·exact ndr z hl2
  ·rw[z] at hl2
   exact ndr mp hl2
 clear W edr lP ndr
 rintro σ Hc ⟨P,rfl,lP,W,edr,ndr⟩
 obtain⟨p,hp⟩:∃ p,P[d0]? = some p:=⟨_,TJ (by lia)⟩
 refine jD (fun σ Hd=>∃ (w6 w10:Lc) (P:List (Addr × Bo)),σ=[oR p1,oR R,u2,u3,u4,u5,w6,oI cv,oR dr,some (vN d0),w10]/\P.length=3/\Ws Hd R p6 ((ks++[1,2,3]).map V.int) P/\Hd dr=some (.lst [vN d0,vN d1,.int d2,.int d3])) ?_ ?_
 ·intro N Rc
  refine⟨_,U,dr,_,_,_,U,U,sqL edr,gt2,U,_,U,?_⟩
  by_cases z:d2=0
  case neg =>
   rw[dcF (show ¬ V.int d2=V.int 0 from fun y=>z (by injection y))]
   exact fC (Rc _ _ ⟨_,_,P,U,lP,W,edr⟩)
  rw[dcT (show V.int d2=V.int 0 by rw[z])]
  refine gF ?_
  obtain⟨X,nd,hat⟩:=W.at hp
  have mp:=Ud hp
  refine jD (fun σ He=>σ=[oR p1,oR R,u2,u3,u4,u5,some (.ref p.2.f),oI cv,oR dr,some (vN d0),u10]/\He=Hc) ?_ ?_
  ·intro N Rc
   exact⟨_,U,_,U,R,_,_,_,U,U,sqL W.hR,hat,p.1,_,_,_,U,U,sqL X.hr,gt1,Rc _ _ ⟨U,U⟩⟩
  rintro σ He ⟨rfl,rfl⟩
  have lf:=X.of.1
  have n1:=X.n1
  have n6:=X.n6
  have bi:0<=d3 % (p.2.fl.length:Int)/\d3 % (p.2.fl.length:Int) < p.2.fl.length:=⟨Vp _ (by lia),U7 _ (by lia)⟩
  obtain⟨k,ek⟩:∃ k:Nat,d3 % (p.2.fl.length:Int)=(k:Int):=⟨(d3 % (p.2.fl.length:Int)).toNat,by lia⟩
  have kl:k < p.2.fl.length:=by lia
  have lm:(p.2.fl.map V.int).length=p.2.fl.length:=Tw _
  refine jD (fun σ Hf=>σ=[oR p1,oR R,u2,u3,u4,u5,some (.ref p.2.f),oI cv,oR dr,some (vN d0),some (vN k)]/\Hf=He) ?_ ?_
  ·intro N Rc
   refine⟨_,U,dr,_,_,_,U,U,sqL edr,cV (k:=3) U,_,U,p.2.f,_,U,.inr (sqT X.hf),_,_,U,U,by lia,?_⟩
   refine Rc _ _ ⟨?_,U⟩
   show[_,_,_,_,_,_,_,_,_,_,some (V.int (d3 % ((p.2.fl.map V.int).length:Int)))]=_
   rw[lm,ek]
   rfl
  rintro σ Hf ⟨rfl,rfl⟩
  refine slT (k:=k) (xs:=p.2.fl.map V.int) U U X.hf (by lia) fun q1 G1 s1 e1=>?_
  refine⟨_,U,_,U,p.2.f,_,_,_,U,U,sqT (s1 _ _ X.hf),jJ kl,_,_,U,U,by show (0:Int) < 2;decide,_,_,U,U,smN 1,fun q2 h2=>?_⟩
  generalize eG2:upd G1 q2 _=G2
  obtain⟨g2,e2⟩:=aC eG2 h2
  refine OJ (g2 _ _ e1) e2 (by rw[Uj];show min k _+1<=1000;lia) fun q3 G3 s3 e3=>?_
  have s13:=s1.trans (g2.trans s3)
  refine slD (k:=k) (xs:=p.2.fl.map V.int) U U (s13 _ _ X.hf) (by lia) fun q4 G4 s4 e4=>?_
  refine OJ (s4 _ _ e3) e4 (by rw[Uh,Uj,V4];show min k _+1+(_ - (k+1))<=1000;lia) fun q5 G5 s5 e5=>?_
  have s15:=s13.trans (s4.trans s5)
  have e5':G5 q5=some (.tup ((p.2.fl.set k (1 - p.2.fl[k] % 2)).map V.int)):=by
   rw[e5,List.map_set,Y7,iPo (by lia),Wk]
   rfl
  have W5:=W.same s15
  obtain⟨X5,_,_⟩:=W5.at hp
  have og:okG p.2.n (p.2.fl.set k (1 - p.2.fl[k] % 2)):=⟨by rw[Xn];exact lf,fun y hy=>by
   rcases Z4 hy with z | z
   ·exact X.of.2 y z
   ·rw[z]
    lia⟩
  refine⟨_,U,_,U,R,_,_,_,U,U,sqL W5.hR,hat,p.1,_,1,1,U,U,X5.hr,U,Rc _ _ ⟨_,_,P.set d0 (p.1,{ p.2 with f:=q5,fl:=p.2.fl.set k (1 - p.2.fl[k] % 2) }),U,by rw[Xn];exact lP,W5.write hp X5.hr kcU TY U U (X5.floor nd e5' og),?_⟩⟩
  rw[aR (ndr mp TY)]
  exact s15 _ _ edr
 clear W edr lP ndr hp p P
 rintro σ Hd ⟨w6,w10,P,rfl,lP,W,edr⟩
 obtain⟨p,hp⟩:∃ p,P[d1]? = some p:=⟨_,TJ (by lia)⟩
 obtain⟨X,nd,hat⟩:=W.at hp
 have n6:=X.n6
 refine⟨_,U,_,U,dr,_,_,_,U,U,sqL edr,gt1,R,_,_,_,U,U,sqL W.hR,hat,p.1,_,_,_,U,U,sqL X.hr,gt0,_,U,_,U,dr,_,_,_,U,U,sqL edr,gt1,R,_,_,_,U,U,sqL W.hR,hat,p.1,_,_,_,U,U,sqL X.hr,gt1,_,U,p.2.b,p.2.f,p.2.n,p.2.bk,p.2.fl,cv,U,X.n1,X.n6,⟨p.2.us,X.hb,X.bs,by rw[X.lb];lia⟩,X.lb,X.hf,X.of,fun H' s'=>⟨true,U,?_⟩⟩
 show if (!true)=true then _ else _
 exact fC ⟨_,_,_,_,_,_,_,_,_,P,U,lP,W.same s'⟩
theorem all_mk {l:W.OpenLaw} {w:Ve} {K:UT} {h:Vv} {mg:VM->IC} {fa fq0 fq1 fq2 fq3 fq4 fq5 fq6 fq7 fq8 fq9 fq10 fq11 fq12 fq13 fq14 fq15 fq16 fq17 fq18 fq19 fq20 fq21 fq22 fq23 fq24 fq25 fq26 fq27 fq28 fq29 fq30 fq31 fq32 fq33 fq34 fq35 fq36 fq37 fq38 fq39 fq40 fq41 fq42 fq43 fq44 fq45:Addr} (X:K.In h) (G:h.Ns U8 mg) (hfa:mg "law" = some (.ref fa))
  (qq0:HasDef K "lifted" um fq0)
  (qq1:HasDef K "all_hold" nC fq1)
  (qq2:HasDef K "any_holds" lG fq2)
  (qq3:HasDef K "holds" zu fq3)
  (qq4:HasDef K "owes" FQ fq4)
  (qq5:HasDef K "last_step" lJ fq5)
  (qq6:HasDef K "what_is_due" iZ fq6)
  (qq7:HasDef K "roof" Hl fq7)
  (qq8:HasDef K "settled" qx fq8)
  (qq9:HasDef K "rise" Gx fq9)
  (qq10:HasDef K "fall" Et fq10)
  (qq11:HasDef K "least" yh fq11)
  (qq12:HasDef K "greatest" m6 fq12)
  (qq13:HasDef K "held_step" lM fq13)
  (qq14:HasDef K "held" Ig fq14)
  (qq15:HasDef K "alone" zz fq15)
  (qq16:HasDef K "risers" uL fq16)
  (qq17:HasDef K "put_off" pZ fq17)
  (qq18:HasDef K "knots" zP fq18)
  (qq19:HasDef K "with_one_more" gB fq19)
  (qq20:HasDef K "begins" uT fq20)
  (qq21:HasDef K "_law_cell" nF fq21)
  (qq22:HasDef K "_law_draws" kY fq22)
  (qq23:HasDef K "_law_same" mW fq23)
  (qq24:HasDef K "_law_under" kO fq24)
  (qq25:HasDef K "_law_crowd" kE fq25)
  (qq26:HasDef K "_law_term" nu fq26)
  (qq27:HasDef K "_law_renamed" jf fq27)
  (qq28:HasDef K "_law_mine" nq fq28)
  (qq29:HasDef K "_law_pledge" jG fq29)
  (qq30:HasDef K "_law_book" nT fq30)
  (qq31:HasDef K "_law_giving" jK fq31)
  (qq32:HasDef K "_law_scene" lK fq32)
  (qq33:HasDef K "_law_scene_at" ie fq33)
  (qq34:HasDef K "_law_holds" lB fq34)
  (qq35:HasDef K "_law_owes" nR fq35)
  (qq36:HasDef K "_law_owed" ni fq36)
  (qq37:HasDef K "_law_step_by_step" dZ fq37)
  (qq38:HasDef K "_law_roof" nA fq38)
  (qq39:HasDef K "_law_crowds" jN fq39)
  (qq40:HasDef K "_law_alone" lV fq40)
  (qq41:HasDef K "_law_least" lQ fq41)
  (qq42:HasDef K "_law_knots" kI fq42)
  (qq43:HasDef K "_law_changed" jd fq43)
  (qq44:HasDef K "_law_asked" lH fq44)
  (qq45:HasDef K "law" M4 fq45)
  (z_len:Ym K U8 "len" = some none)
  (z_range:Ym K U8 "range" = some none)
  (z_all:Ym K U8 "all" = some none)
  (z_isinstance:Ym K U8 "isinstance" = some none)
  (z_int:Ym K U8 "int" = some none)
  (z_bool:Ym K U8 "bool" = some none)
  (z_str:Ym K U8 "str" = some none)
  (z_list:Ym K U8 "list" = some none)
  (z_tuple:Ym K U8 "tuple" = some none)
  (z_abs:Ym K U8 "abs" = some none)
  (z_max:Ym K U8 "max" = some none)
  (z_min:Ym K U8 "min" = some none)
  (z_sum:Ym K U8 "sum" = some none)
  (z_sorted:Ym K U8 "sorted" = some none)
  (z_zip:Ym K U8 "zip" = some none)
  (z_reversed:Ym K U8 "reversed" = some none)
  (z_divmod:Ym K U8 "divmod" = some none)
  (z_set:Ym K U8 "set" = some none)
  (z_any:Ym K U8 "any" = some none)
  (z_enumerate:Ym K U8 "enumerate" = some none)
  : ∃ fd:Yi,(∀ (s:TF) (v:Value),aa1 s fd ⟨[v],[]⟩ [("_law_script",v)])/\∀ base:Vv,K.In base->base.Ns U8 mg->dF l.prog w K mg base CX0 17 fa fd ZN (Kf K):=by
 have e:=hfa.symm.trans (qq45.name X G)
 cases e
 have B:Bt mg:=⟨VR X G z_len,VR X G z_range,VR X G z_all,VR X G z_isinstance,VR X G z_int,VR X G z_bool,VR X G z_str,VR X G z_list,VR X G z_tuple,VR X G z_abs,VR X G z_max,VR X G z_min,VR X G z_sum,VR X G z_sorted,VR X G z_zip,VR X G z_reversed,VR X G z_divmod,VR X G z_set,VR X G z_any,VR X G z_enumerate⟩
 obtain⟨_,Fq45,bq45⟩:=qq45.law (y:="_law_script") fun _ _ _ _ _ _ s v=>.of_eq U
 refine⟨_,bq45,fun base _ _=>?_⟩
 have dd:=fun {x:VM} {st:Stmt} {f:Addr} {ps:IR} {sp:Sp} {k:Nat} (q:HasDef K x st f)=>q.df (P:=l.prog) (w:=w) (mg:=mg) (base:=base) (ps:=ps) (sp:=sp) (k:=k) X G
 have Dq21:=dd qq21 bL fun _ F=>zQ F B
 have Dq22:=dd qq22 bL fun _ F=>xW F B
 have Dq24:=dd qq24 bL fun _ F=>wN F B
 have Dq25:=dd qq25 bL fun _ F=>xF F B
 have Dq31:=dd qq31 wU fun _ F=>uV F B Dq22
 have S0:Df l.prog w K mg base "_law_same" 0 YN (sY 0):=dd qq23 bL fun _ _=>same_none
 have S1:=dd qq23 bL fun _ F=>jt F B S0
 have S2:=dd qq23 bL fun _ F=>jt F B S1
 have S3:=dd qq23 bL fun _ F=>jt F B S2
 have S4:=dd qq23 bL fun _ F=>jt F B S3
 have T0:Df l.prog w K mg base "_law_term" 1 XI (sW 0):=dd qq26 ud fun _ _=>term_none
 have T1:=dd qq26 ud fun _ F=>lU F B Dq22 Dq24 Dq25 T0
 have T2:=dd qq26 ud fun _ F=>lU F B Dq22 Dq24 Dq25 T1
 have T3:=dd qq26 ud fun _ F=>lU F B Dq22 Dq24 Dq25 T2
 have R0:Df l.prog w K mg base "_law_renamed" 0 YA (Dq K 0):=dd qq27 bL fun _ _=>Ji
 have R1:=dd qq27 bL fun _ F=>iy F B R0
 have R2:=dd qq27 bL fun _ F=>iy F B R1
 have R3:=dd qq27 bL fun _ F=>iy F B R2
 have Dq28:=dd qq28 Qu fun _ F=>zU F B T3 R3
 have Dq29:=dd qq29 Qu fun _ F=>vd F B Dq22 Dq24 Dq25 Dq28
 have Dq30:=dd qq30 ud fun _ F=>yW F B Dq21 Dq22 Dq24 Dq29
 have Dq32:=dd qq32 bind1 fun _ F=>v9 F B Dq21 Dq22 Dq31 Dq30
 have Dq33:=dd qq33 bL fun _ F=>qH F B Dq32
 have L0:Df l.prog w K mg base "_law_holds" 0 XY (eQ K 0):=dd qq34 bL fun _ _=>yp
 have L1:=dd qq34 bL fun _ F=>gJ F B L0
 have L2:=dd qq34 bL fun _ F=>gJ F B L1
 have L3:=dd qq34 bL fun _ F=>gJ F B L2
 have L4:=dd qq34 bL fun _ F=>gJ F B L3
 have Dq35:=dd qq35 bL fun _ F=>yf F B L4
 have Dq36:=dd qq36 bL fun _ F=>zb F B Dq35
 have Dq38:=dd qq38 bL fun _ F=>zR F B
 have H0:Df l.prog w K mg base "holds" 0 ZE (eQ K 0):=dd qq3 bL fun _ _=>Dd
 have A1:=dd qq1 bL fun _ F=>jm F B H0
 have Y1:=dd qq2 bL fun _ F=>gK F B H0
 have H1:=dd qq3 bL fun _ F=>pA F B A1 Y1
 have A2:=dd qq1 bL fun _ F=>jm F B H1
 have Y2:=dd qq2 bL fun _ F=>gK F B H1
 have H2:=dd qq3 bL fun _ F=>pA F B A2 Y2
 have A3:=dd qq1 bL fun _ F=>jm F B H2
 have Y3:=dd qq2 bL fun _ F=>gK F B H2
 have H3:=dd qq3 bL fun _ F=>pA F B A3 Y3
 have A4:=dd qq1 bL fun _ F=>jm F B H3
 have Y4:=dd qq2 bL fun _ F=>gK F B H3
 have H4:=dd qq3 bL fun _ F=>pA F B A4 Y4
 have Dq4:=dd qq4 bL fun _ F=>MJ F B H4
 have Dq5:=dd qq5 bind1 fun _ F=>xT F B
 have Dq6:=dd qq6 wU fun _ F=>rE F B Dq4
 have Dq7:=dd qq7 bL fun _ F=>Nb F B Dq5
 have Dq8:=dd qq8 wU fun _ F=>Cw F B Dq6
 have Dq9:=dd qq9 bL fun _ F=>Nk F B Dq8
 have Dq10:=dd qq10 bL fun _ F=>Oe (by decide) F B Dq8 Dq7
 have Dq11:=dd qq11 bL fun _ F=>Jo F B Dq9
 have Dq12:=dd qq12 bL fun _ F=>yE F B Dq10
 have Dq37:=dd qq37 wU fun _ F=>lq F B Dq36
 have Dq0:=dd qq0 wU fun _ F=>Ej F B
 have Dq13:=dd qq13 ud fun _ F=>vO F B Dq4
 have Dq14:=dd qq14 wU fun _ F=>Mh F B Dq13
 have Dq15:=dd qq15 wU fun _ F=>Jm (by decide) F B Dq11 Dq12 Dq0 Dq14
 have Dq16:=dd qq16 bL fun _ F=>FZ F B
 have Dq17:=dd qq17 ud fun _ F=>Ds F B Dq16 Dq0 Dq14
 have Dq18:=dd qq18 bL fun _ F=>J6 (by decide) F B Dq11 Dq12 Dq17 Dq16
 have Dq19:=dd qq19 ud fun _ F=>oY F B Dq11 Dq0
 have Dq20:=dd qq20 bL fun _ F=>Gu F B Dq11 Dq12 Dq19
 have Dq39:=dd qq39 bind1 fun _ F=>uR F B
 have Dq41:=dd qq41 bL fun _ F=>vL F B Dq37
 have Dq40:=dd qq40 ud fun _ F=>wz F B Dq36
 have Dq42:=dd qq42 bL fun _ F=>wj F B Dq41 Dq39 Dq40
 have Dq43:=dd qq43 bL fun _ F=>rG F B Dq22
 have Dq44:=dd qq44 wU fun _ F=>vR F B Dq22 Dq37 Dq38 Dq9 Dq10 Dq11 Dq12 Dq18 Dq42 Dq15 Dq40 Dq20 S3
 exact PL Fq45 B Dq22 Dq33 Dq43 Dq44
theorem walk {l:W.OpenLaw}{q:Uy}{loose:IR}{XP:(VM->IC)->Vv->Prop}{YP:Ve->Vv->Prop}{d:DefRec}{K:Params->UT}(hn:l.most=some 63)(hdf:d.params.defaults=[])
  (hY:∀ (w:Ve) (h:Vv),YP w h->(K w.params).In h)
  (F:∀ (w:Ve) (mg:VM->IC) (fa:Addr) (h:Vv),(K w.params).In h->h.Ns U8 mg->mg d.name=some (.ref fa) →
   ∃ fd:Yi,(∀ (s:TF) (u:Value),aa1 s fd ⟨[u],[]⟩ [("_law_script",u)])/\∀ base:Vv,(K w.params).In base->base.Ns U8 mg->dF l.prog w (K w.params) mg base CX0 17 fa fd ZN (Kf (K w.params))) :
  W.WalkO q loose XP YP l.row.toRowW d [] (fun f vs=>PySem.call f vs) :=
 L2.Nj (n:=63) (k:=17) (x:="_law_script") (CX:=fun _=>CX0) (sp:=fun w=>Kf (K w.params)) hn (by decide) hdf ⟨U,by decide,by decide⟩ hY F (fun _ _ a ns hl _ hS=>⟨a,ns,U,hS,hl,fun _=>U⟩) fun _ _ _ _ _ z=>z
end My
end
open PySem PySem.W PyProof.Rows
namespace PySem.Challenge.cw_loveboon_k56_whole_books_asked_by_turns_holds
theorem tw3537531344775416870:True:=trivial
theorem tw6085482588349584630:True:=trivial
theorem tw16357133487065748144:True:=trivial
theorem tw12704429039373447557:True:=trivial
theorem tw1728188023427683905:True:=trivial
theorem tw8459448505133605061:True:=trivial
theorem tw1520003342201517190:True:=trivial
theorem tw16528213215093110073:True:=trivial
theorem tw1937558303880672407:True:=trivial
theorem tw3720936028308835170:True:=trivial
theorem tw10465754637782311433:True:=trivial
theorem tw11089551929175048139:True:=trivial
theorem tw4392467231271012989:True:=trivial
theorem tw15234179201616991703:True:=trivial
theorem tw11456474099079087422:True:=trivial
theorem tw13407785450853487802:True:=trivial
theorem tw2261003242849344753:True:=trivial
theorem tw14758812071112872476:True:=trivial
theorem tw4978099755275478483:True:=trivial
theorem tw7981078355920784743:True:=trivial
theorem tw14008137659485405489:True:=trivial
theorem tw16841373226607677290:True:=trivial
theorem tw12174821039204879883:True:=trivial
theorem tw10286024488684253167:True:=trivial
theorem tw2368350908968443699:True:=trivial
end PySem.Challenge.cw_loveboon_k56_whole_books_asked_by_turns_holds
set_option maxRecDepth 100000 in
set_option maxHeartbeats 0 in
theorem PySem.Challenge.cw_loveboon_k56_whole_books_asked_by_turns_holds : PySem.Challenge.rw_loveboon_k56_whole_books_asked_by_turns.Holds := by
 w_on;o_law;k_head;(case hw=>w_witness2)
 k_fill
 refine My.walk (l:=PySem.Challenge.rw_loveboon_k56_whole_books_asked_by_turns) U U (fun w h Y=>W.kIn_of Y) ?F
 case F =>
  intro w mg fa h KX G hmg
  refine' My.all_mk KX G hmg ?qq0 ?qq1 ?qq2 ?qq3 ?qq4 ?qq5 ?qq6 ?qq7 ?qq8 ?qq9 ?qq10 ?qq11 ?qq12 ?qq13 ?qq14 ?qq15 ?qq16 ?qq17 ?qq18 ?qq19 ?qq20 ?qq21 ?qq22 ?qq23 ?qq24 ?qq25 ?qq26 ?qq27 ?qq28 ?qq29 ?qq30 ?qq31 ?qq32 ?qq33 ?qq34 ?qq35 ?qq36 ?qq37 ?qq38 ?qq39 ?qq40 ?qq41 ?qq42 ?qq43 ?qq44 ?qq45 ?z_len ?z_range ?z_all ?z_isinstance ?z_int ?z_bool ?z_str ?z_list ?z_tuple ?z_abs ?z_max ?z_min ?z_sum ?z_sorted ?z_zip ?z_reversed ?z_divmod ?z_set ?z_any ?z_enumerate
  (case qq0|qq1|qq2|qq3|qq4|qq5|qq6|qq7|qq8|qq9|qq10|qq11|qq12|qq13|qq14|qq15|qq16|qq17|qq18|qq19|qq20|qq21|qq22|qq23|qq24|qq25|qq26|qq27|qq28|qq29|qq30|qq31|qq32|qq33|qq34|qq35|qq36|qq37|qq38|qq39|qq40|qq41|qq42|qq43|qq44|qq45=>apply L2.HasDef.mk <;> k_is)
  (case z_len|z_range|z_all|z_isinstance|z_int|z_bool|z_str|z_list|z_tuple|z_abs|z_max|z_min|z_sum|z_sorted|z_zip|z_reversed|z_divmod|z_set|z_any|z_enumerate=>k_is)
